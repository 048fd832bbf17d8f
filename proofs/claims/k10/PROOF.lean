import PyProof.Rows.All
import Wide.All
import OpenK.AllK
import Wide.FinOn
import HandS.ForMost
import PyProof.ReprRoads
import HandS.Wide
import HandS.Style
import HandS.Evl
import HandS.Conv
import HandS.Replace
import PyProof.EqAt
import PyProof.NeKinds
import PyProof.AutoSeq1
import HandS.Star
import HandS.SortKw
import KE.DatumOrd
import KE.KDictPairs
import HandS.Zip
import HandS.More
import HandS.IsInst
import PyProof.P3In
import HandS.NoneIn
import HandS.WrittenGet
import HandS.Walk
import HandS.Text
import HandS.Flow
import HandS.Set
import HandS.SetBool
import HandS.SetKeys
import PyProof.Rows.SortStr
import HandS.Strs
import HandS.TupAny
import HandS.Codes
import PyProof.Rows.StrDigitsNeg
import HandS.Call
import HandS.StrMore
import HandS.FStr
import HandS.Exc
import PySem.Challenge.RW_lookdone_k10_transactions_written
set_option Elab.async false
set_option linter.all false
set_option maxRecDepth 100000
set_option maxHeartbeats 4000000
namespace GR
open PySem PySem.Spec PyProof.Rows L2

/-! ### data that stands in the abstract heap -/
section
variable {X : Cx} {pins : List (Addr × Obj)} {σ : L2.St} {H : Hp} {s : Shared}
mutual
theorem nodict {K : PySem.W.Frag} : ∀ {v : V} {d : PyData}, Dp K H v d → d.hasDict = false
  | _, _, .non => by simp only [PyData.hasDict]
  | _, _, .bl b => by simp only [PyData.hasDict]
  | _, _, .int i => by simp only [PyData.hasDict]
  | _, _, .str x => by simp only [PyData.hasDict]
  | _, _, .lst _ q => by simp only [PyData.hasDict, nodicts q]
  | _, _, .tup _ q => by simp only [PyData.hasDict, nodicts q]
theorem nodicts {K : PySem.W.Frag} : ∀ {vs : List V} {ds : List PyData}, DpAll K H vs ds → PyData.hasDictAll ds = false
  | _, _, .nil => by simp only [PyData.hasDictAll]
  | _, _, .cons h q => by simp only [PyData.hasDictAll, nodict h, nodicts q, Bool.or_self]
end

/-- repr of a list or a tuple of data -/
def rRepr (X : Cx) : List V → Hp → VK → Prop := fun xs H Q => ∃ (a : Addr) (d : PyData), xs = [.ref a] ∧ Dp X.K H (.ref a) d ∧ d.showable = true ∧ d.depth ≤ 60 ∧ d.shown.length ≤ sizeLine ∧ Q (.str d.shown) H
theorem call_reprD {k : Nat} (hg : X.A.guards = some []) (hr : Room k X.A) : CallR X (.builtin "repr") (rRepr X) := by
  intro pins s σ H xs us Q I r h
  obtain ⟨a, d, rfl, hd, hs, hdep, hz, q⟩ := h
  obtain ⟨u, rfl, rv⟩ := vals1 r
  obtain rfl : u = Value.ref a := rv
  obtain ⟨as, hR⟩ := Dp.reads I d _ _ hd rfl
  have hu := hr.units
  exact repr_of_reads' hR hs (PyData.noDict_hsm (nodict hd)) hg (by omega) (fun _ _ e => e) (fun h' u tk hk => ⟨.str d.shown, H, I.kept hk, ⟨_, rfl⟩, q⟩) hz
end

/-! ### defs that show things: a promise kept wherever nothing is being shown -/
structure FnG (P : Program) (w : World) (K : PySem.W.Frag) (mg : Str → Option Value) (base : Heap) (CX : CXT) (k : Nat) (f : Addr) (fd : FuncData) (ps : List Str) (sp : Sp) : Prop where
  size : ∀ vs H Q E, sp vs H Q E → vs.length = ps.length
  go : ∀ (A : Around) (outer : List Env) (s : Shared) (H : Hp) (args : Args) (us : List Value) (vs : List V) (Q : VK) (E : XK),
    A.guards = some [] → Room k A → Env0 P w K mg base A outer s H → BindsTo s fd args (ps.zip us) → Vals vs us → sp vs H Q E →
    codeAny (model P w) A (.call (.ref f) args) (CR CX outer P w H s Q E) s

section
variable {P : Program} {w : World} {K : PySem.W.Frag} {mg : Str → Option Value} {base : Heap}
theorem FnG.of {CX : CXT} {k : Nat} {f : Addr} {fd : FuncData} {ps : List Str} {sp : Sp} (F : FnOk P w K mg base CX k f fd ps sp) : FnG P w K mg base CX k f fd ps sp :=
  ⟨F.len, fun A outer s H args us vs Q E _ => F.run A outer s H args us vs Q E⟩

/-- a def by its body, where nothing is being shown -/
theorem ok_g {x qual : Str} {st : Stmt} {f : Addr} {fd : FuncData} {N ps : List Str} {k : Nat} {sp : Sp} (F : Fun K x qual st f fd) (S : FnScope N ps (defScope st)) (size : ∀ vs H Q E, sp vs H Q E → vs.length = ps.length)
    (body : ∀ (cdv : Value) (A : Around) (outer : List Env) (s : Shared) (H : Hp) (vs : List V) (Q : VK) (E : XK), A.guards = some [] → Room k (A.deeper (envOfC qual (defScope st) s.heap.objs.size f cdv)) → sp vs H Q E →
      ∃ t, PSs (cxOf CX0 P w K mg base N qual (defScope st) f cdv A outer s H E).nox (defBody st) t ∧ t { nx := fun _ H' => Q .non H', rt := Q } (start N vs) H) : FnG P w K mg base CX0 (k + 1) f fd ps sp := by
  obtain ⟨oc, od, kV, doc, pm, an, cdv, ct, osl, rfl, lk, hcd⟩ := F.ex
  constructor
  · exact size
  intro A outer s H args us vs Q E gA room e0 bnd rel hsp
  have inK : K.In s.heap := e0.mod.kin.keeps (fun b o q => (e0.bs b o q).1)
  have nolim := e0.mod.nolimit.keeps (fun b o q => (e0.bs b o q).1)
  obtain ⟨t, ht, hq⟩ := body cdv A outer s H vs Q E gA (room.deeper _) hsp
  refine codeAny_call_function room.depth (inK f _ lk) rfl S.co S.gen rfl (PySem.W.codeRec_of inK hcd) (bnd _ _ _ _ ?_)
  refine wpAny_newFunctionEnv_cells S.kind ?par (fun env he s1 inC => ?run)
  case par =>
    rintro ⟨n, v⟩ hy
    rcases S.par n (List.of_mem_zip hy).1 with q | q
    · exact Or.inl q
    · exact Or.inr ⟨q, PySem.W.cellsFrom_some _ _ _ (Or.inl q)⟩
  case run =>
    cases he
    refine And.intro (nolim.keeps inC.toInCall.keep) (codeAny_func ?_)
    have I0 := inv_start (CX := CX0) (P := P) (w := w) (K := K) (mg := mg) (base := base) (E := E) S room.hd e0 (size _ _ _ _ hsp) rel inC
    refine wpAny_mono (ht.nox.run [] s1 (start N vs) H _ I0 hq) ?_ (fun _ _ z => z)
    rintro fl s' hs
    have close : ∀ (σ' : L2.St) (H' : Hp) (v : V) (u : Value), Inv (cxOf CX0 P w K mg base N qual (defScope st) f cdv A outer s H E) [] σ' H' s' → RelV v u → Q v H' → CE outer P w H s Q u s' := by
      intro σ' H' v u J rv q
      exact ⟨v, H', J.os, J.bare, J.base, J.hok, rv, q⟩
    cases fl
    case ret u => obtain ⟨v, σ', H', J, rv, q⟩ := hs; exact close _ _ _ _ J rv q
    case next => obtain ⟨σ', H', J, q⟩ := hs; exact close _ _ V.non Value.none J rfl q
    case brk => obtain ⟨_, _, _, q⟩ := hs; exact q.elim
    case cont => obtain ⟨_, _, _, q⟩ := hs; exact q.elim
end

section
variable {X : Cx} {CX : CXT} {k : Nat} {f : Addr} {fd : FuncData} {ps : List Str} {sp : Sp} {E : XK} {x : Str} {p pos : Pos} {e : Expr} {es : List Expr} {t : TA}
/-- its call -/
theorem pe_callG (F : FnG X.prog X.w X.K X.mg X.base CX k f fd ps sp) (hg : X.A.guards = some []) (hr : Room k X.A) (gx : Gl X x) (hm : X.mg x = some (.ref f)) (hk : PySem.W.keepIn X.K (.ref f) = true) (hb : Binds X.K fd ps []) (hx : Passes CX X E)
    (ha : PA X (e :: es) t) (hdb : (x == ("__debug__" : Str)) = false := by decide) (he : starEach (e :: es) X.env = (false, eval e X.env) :: starEach es X.env := by rfl) (hpl : (backTo pos (starEach es X.env)).any (·.1) = false := by rfl) :
    PE X (.Call (.Name x p) (e :: es) [] pos) (tCall sp [] E t) := by
  constructor
  intro pins s σ H Q I h
  refine wpAny_Call_Name_kw (ld_glob I gx hm (PySem.W.callWith_K (h₀ := X.base) I.ok.mod.kin hk (thn (ha.run pos pins s σ H _ I h) ?_) he hpl) hdb)
  rintro us s1 ⟨vs, H1, I1, r, q⟩
  refine ⟨I1.kIn, ?_⟩
  have q' : sp vs H1 Q E := by simpa using q
  have hl : us.length = ps.length := by
    rw [← r.length]
    exact F.size _ _ _ _ q'
  have hB := hb s1 us I1.kIn (by simpa using hl)
  rw [List.append_nil] at hB
  refine wpAny_call (codeAny_mono (F.go X.A X.stack s1 H1 ⟨us, []⟩ us vs Q E hg hr I1.env0 hB r q') ?_)
  rintro (er | fl) s2 hq
  · exact hx pins σ H1 s1 er s2 I1 hq
  · cases fl
    case ret u => exact I1.after hq
    case next => exact hq.elim
    case brk => exact hq.elim
    case cont => exact hq.elim
end

/-- a comprehension without a test -/
theorem yes_then {σ : L2.St} {H : Hp} {A B : Hp → Prop} (h : A H) : tYes σ H (fun b H3 => if b = true then A H3 else B H3) := by
  show (if true = true then A H else B H)
  rw [if_pos rfl]
  exact h

/-! ### the law's own call -/
/-- the abstract heap in which the script alone is tracked, as it stands -/
def scriptHp (a : Addr) (o : Obj) (xs : List V) : Hp := fun b => if b = a then some (.frz o (.lst xs)) else none
theorem scriptHp_at {a : Addr} {o : Obj} {xs : List V} : scriptHp a o xs a = some (.frz o (.lst xs)) := if_pos rfl
theorem scriptHp_some {a b : Addr} {o : Obj} {xs : List V} {u : HO} (h : scriptHp a o xs b = some u) : b = a ∧ u = .frz o (.lst xs) := by
  unfold scriptHp at h
  split at h
  · rename_i e
    exact ⟨e, (Option.some.inj h).symm⟩
  · cases h

theorem ns_hid {h : Heap} {H : Hp} {b : Addr} {m : Str → Option Value} (q : h.Ns b m) (hb : H b = none) : (hidT h H).Ns b m := by
  obtain ⟨o, es, ep, e, r⟩ := q
  exact ⟨o, es, ep, hidT_get e hb, r⟩

theorem law_callG {P : Program} {w : World} {K : PySem.W.Frag} {mg mb : Str → Option Value} {k : Nat} {fa a : Addr} {fd : FuncData} {x : Str} {sp : Sp} {s₁ : Shared} {vs : List Value} {ns : List Int}
    (KX : K.In s₁.heap) (hns : s₁.heap.Ns mainGlobals mg) (hb : s₁.heap.Ns builtinsNs mb) (hbb : ∀ x : Str, x ≠ "__name__" → mb x = bootBuiltins x) (hlim : s₁.heap.NoLimit) (hg : s₁.gens = #[])
    (ha : s₁.heap.get? a = some { cls := .type "list", data := .seq vs.toArray }) (hi : IntsAre vs ns) (hl : ns.length ≤ sizeLine) (hr : Room k callerA)
    (F : ∀ base : Heap, K.In base → base.Ns mainGlobals mg → FnG P w K mg base CX0 k fa fd [x] sp) (hbind : ∀ (s : Shared) (u : Value), BindsTo s fd ⟨[u], []⟩ [(x, u)])
    (hsp : ∀ H : Hp, Only H → SqL K H a (ns.map V.int) → sp [.ref a] H (fun v _ => v = .bl true) fun _ _ _ => False) :
    codeAny (model P w) callerA (.call (.ref fa) ⟨[.ref a], []⟩) (fun r s' => r = .ok (.ret (.bool true)) ∧ OldK s₁.heap s'.heap ∧ s'.os = s₁.os ∧ AllBare s'.gens) s₁ := by
  have main : ∀ H : Hp, Only H → SqL K H a (ns.map V.int) → HOk P w H s₁.heap → (∀ b u, H b = some u → b = a ∧ K.lookup a = none) →
      codeAny (model P w) callerA (.call (.ref fa) ⟨[.ref a], []⟩) (fun r s' => r = .ok (.ret (.bool true)) ∧ OldK s₁.heap s'.heap ∧ s'.os = s₁.os ∧ AllBare s'.gens) s₁ := by
    intro H only seq ok one
    have free : ∀ b, (∀ o n, s₁.heap.get? b = some o → o.data ≠ .seq vs.toArray n) → H b = none := by
      intro b nb
      cases q : H b with
      | none => rfl
      | some u =>
        obtain ⟨rfl, _⟩ := one b u q
        exact absurd rfl (nb _ _ ha)
    have freeD : ∀ {b : Addr} {m : Str → Option Value}, s₁.heap.Ns b m → H b = none := by
      rintro b m ⟨o, es, ep, e, d, _⟩
      refine free b fun o' n e' d' => ?_
      rw [e] at e'
      cases e'
      rw [d] at d'
      cases d'
    have inB : K.In (hidT s₁.heap H) := by
      intro b o e
      refine hidT_get (KX b o e) ?_
      cases q : H b with
      | none => rfl
      | some u =>
        obtain ⟨rfl, z⟩ := one b u q
        rw [z] at e
        cases e
    have gB := ns_hid hns (freeD hns)
    have md : Mod K mg (hidT s₁.heap H) := by
      refine ⟨inB, gB, ⟨mb, ns_hid hb (freeD hb), hbb⟩, ?_⟩
      obtain ⟨mc, h1, h2⟩ := hlim
      exact ⟨mc, ns_hid h1 (freeD h1), h2⟩
    have start0 : Env0 P w K mg (hidT s₁.heap H) callerA [] s₁ H := by
      constructor
      · rfl
      · exact md
      · exact fun b o e => of_hidT e
      · exact Nat.le_of_eq (hidT_size _ _)
      · trivial
      · intro b hb
        exact absurd (show b ∈ ([] : List Addr) from hb) (by simp)
      · exact ok
      · exact .of_eq hg
    have run := (F _ inB gB).go callerA [] s₁ H ⟨[.ref a], []⟩ [.ref a] [.ref a] (fun v _ => v = .bl true) (fun _ _ _ => False) rfl hr start0 (hbind s₁ (.ref a)) (.cons rfl .nil) (hsp H only seq)
    refine codeAny_mono run ?_
    rintro (er | fl) s' h
    · exact False.elim h
    cases fl with
    | next => exact False.elim h
    | brk => exact False.elim h
    | cont => exact False.elim h
    | ret u =>
      obtain ⟨v, H', os, bare, un, ok', rv, q⟩ := h
      cases (show v = .bl true from q)
      cases (show u = Value.bool true from rv)
      refine ⟨rfl, OldK.of_keep ?_, os, bare⟩
      intro b o e
      cases z : H b with
      | none => exact un.keep b o e z (fun m => absurd (show b ∈ ([] : List Addr) from m) (by simp)) (by simp)
      | some u =>
        rcases only b with z' | ⟨ob, xs, z'⟩
        · rw [z] at z'
          cases z'
        · have e1 := (ok b _ z').1
          have e2 := (ok' b _ (un.frzs b ob _ z')).1
          rw [e] at e1
          rw [e1]
          exact e2
  have rv := vals_ints hi
  cases hk : K.lookup a with
  | some o =>
    have e := KX a o hk
    rw [ha] at e
    cases e
    refine main (fun _ => none) (fun _ => .inl rfl) (.inr ⟨_, vs.toArray, _, hk, rfl, rfl, rfl, ?_, by simpa using rv⟩) ?_ ?_
    · rw [List.size_toArray, hi.length]
      exact hl
    · intro b u z
      cases z
    · intro b u z
      cases z
  | none =>
    refine main (scriptHp a { cls := .type "list", data := .seq vs.toArray } (ns.map V.int)) ?_ (.inl (.inr ⟨_, scriptHp_at⟩)) ?_ ?_
    · intro b
      cases z : scriptHp a { cls := .type "list", data := .seq vs.toArray } (ns.map V.int) b with
      | none => exact .inl rfl
      | some u => exact .inr ⟨_, _, by rw [(scriptHp_some z).2]⟩
    · intro b u z
      obtain ⟨rfl, rfl⟩ := scriptHp_some z
      refine ⟨ha, ?_, vs, _, rv, ha⟩
      rw [List.length_map]
      exact hl
    · intro b u z
      exact ⟨(scriptHp_some z).1, hk⟩

theorem walk_g {l : PySem.W.OpenLaw} {n k : Nat} {q : Program} {loose : List Str} {XP : (Str → Option Value) → Heap → Prop} {YP : World → Heap → Prop} {d : DefRec} {K : Params → PySem.W.Frag} {sp : PySem.W.Frag → Sp} {x : Str}
    (hn : l.most = some n) (hn2 : n ≤ sizeLine) (hdf : d.params.defaults = []) (hr : Room k callerA)
    (hY : ∀ (w : World) (h : Heap), YP w h → (K w.params).In h)
    (F : ∀ (w : World) (mg : Str → Option Value) (fa : Addr) (h : Heap), (K w.params).In h → h.Ns mainGlobals mg → mg d.name = some (.ref fa) →
      ∃ fd : FuncData, (∀ (s : Shared) (u : Value), BindsTo s fd ⟨[u], []⟩ [(x, u)]) ∧
        ∀ base : Heap, (K w.params).In base → base.Ns mainGlobals mg → FnG l.prog w (K w.params) mg base CX0 k fa fd [x] (sp (K w.params)))
    (hsp : ∀ (K : PySem.W.Frag) (H : Hp) (a : Addr) (ns : List Int), ns.length ≤ n → Only H → SqL K H a (ns.map V.int) → sp K [.ref a] H (fun v _ => v = .bl true) fun _ _ _ => False) :
    PySem.W.WalkO q loose XP YP l.row.toRowW d [] (fun f vs => PySem.call f vs) := by
  apply Att.attach_call hn hdf
  intro w s₀ s₁ mg mb fa o pm cd doc a vs ns G Y ho hd hcd hmg hobj hints hlen hg
  obtain ⟨fd, bnd, keeps⟩ := F w mg fa _ (hY w _ Y) G.T.g hmg
  exact law_callG (hY w _ Y) G.T.g G.T.b G.T.builtins G.T.nolimit hg hobj hints (Nat.le_trans hlen hn2) hr keeps bnd (fun H => hsp _ H a ns hlen)
end GR

namespace L10
open PySem PySem.Spec PyProof.Rows L2 GR
abbrev LIM : Int := 1000000000000000000
def topS (i : Nat) : Stmt := PySem.Challenge.pw_lookdone_k10_transactions_written.main.body.getD i (.Pass ⟨0, 0, 0, 0⟩)
theorem same_upd {H : Hp} {p : Addr} {o : HO} (h : H p = none) : Same H (upd H p o) := fun b x e => by
  rw [upd_ne (ne_of_none e h)]
  exact e
theorem le2 : 2 ≤ sizeLine := by decide
theorem at0 {xs : List V} {v : V} : atI (v :: xs) 0 = some v := atI_nat (j := 0) rfl
theorem at1 {xs : List V} {v u : V} : atI (u :: v :: xs) 1 = some v := atI_nat (j := 1) rfl
theorem at2 {xs : List V} {v u t : V} : atI (t :: u :: v :: xs) 2 = some v := atI_nat (j := 2) rfl
theorem at3 {xs : List V} {v u t s : V} : atI (s :: t :: u :: v :: xs) 3 = some v := atI_nat (j := 3) rfl
/-! ### the law's deck -/
/-- the deck at d: the cells at c, a number, the count of draws, at most N -/
def Deck (H : Hp) (d c : Addr) (N : Int) : Prop := ∃ (cells : List Int) (m n : Int), H d = some (.lst [.ref c, .int m, .int n]) ∧ H c = some (.lst (cells.map V.int)) ∧ cells.length ≤ 63 ∧ 0 ≤ n ∧ n ≤ N
theorem Deck.ne {H : Hp} {d c : Addr} {N : Int} (h : Deck H d c N) : c ≠ d := by
  obtain ⟨cells, m, n, h1, h2, _⟩ := h
  rintro rfl
  rw [h1] at h2
  have e := HO.lst.inj (Option.some.inj h2)
  cases cells with
  | nil => cases e
  | cons x r =>
    have := (List.cons.inj e).1
    cases this
theorem Deck.mono {H : Hp} {d c : Addr} {N M : Int} (h : Deck H d c N) (hm : N ≤ M) : Deck H d c M := by
  obtain ⟨cells, m, n, h1, h2, h3, h4, h5⟩ := h
  exact ⟨cells, m, n, h1, h2, h3, h4, Int.le_trans h5 hm⟩
/-- all but the deck is as it was -/
def Keep (d c : Addr) (H H' : Hp) : Prop := ∀ b o, b ≠ d → b ≠ c → H b = some o → H' b = some o
theorem Keep.refl {d c : Addr} {H : Hp} : Keep d c H H := fun _ _ _ _ e => e
theorem Keep.trans {d c : Addr} {H H1 H2 : Hp} (a : Keep d c H H1) (b : Keep d c H1 H2) : Keep d c H H2 := fun x o h1 h2 e => b x o h1 h2 (a x o h1 h2 e)
theorem Keep.of {d c : Addr} {H H' : Hp} (s : Same H H') : Keep d c H H' := fun b o _ _ e => s b o e
theorem Deck.same {H H' : Hp} {d c : Addr} {N : Int} (h : Deck H d c N) (s : Same H H') : Deck H' d c N := by
  obtain ⟨cells, m, n, h1, h2, h3⟩ := h
  exact ⟨cells, m, n, s _ _ h1, s _ _ h2, h3⟩
/-- a tuple, a list that is not the deck's stays -/
theorem Keep.tup {d c p : Addr} {H H' : Hp} {N : Int} {xs : List V} (s : Keep d c H H') (D : Deck H d c N) (h : H p = some (.tup xs)) : H' p = some (.tup xs) := by
  obtain ⟨cells, m, n, h1, h2, _⟩ := D
  exact s p _ (ne_of h h1 (fun z => by cases z)) (ne_of h h2 (fun z => by cases z)) h
theorem dp_ints {K : PySem.W.Frag} {H : Hp} : ∀ ns : List Int, DpAll K H (ns.map V.int) (ns.map PyData.int)
  | [] => .nil
  | n :: ns => .cons (.int n) (dp_ints ns)
theorem lay_ints : ∀ ns : List Int, PyData.canLayAll0 (ns.map PyData.int) = true
  | [] => by simp only [List.map_nil, PyData.canLayAll0]
  | n :: ns => by simp only [List.map_cons, PyData.canLayAll0, PyData.canLay0, lay_ints ns, Bool.and_self]
theorem depth_ints : ∀ ns : List Int, PyData.depthAll (ns.map PyData.int) ≤ 1
  | [] => by simp only [List.map_nil, PyData.depthAll]; omega
  | n :: ns => by
    have := depth_ints ns
    simp only [List.map_cons, PyData.depthAll, PyData.depth]
    omega
theorem shaped_ints (ns : List Int) : SeqAt.shaped (.list (ns.map PyData.int)) = true := by
  have := depth_ints ns
  unfold SeqAt.shaped
  rw [Bool.and_eq_true]
  refine ⟨by simp only [PyData.canLay0, lay_ints], decide_eq_true ?_⟩
  simp only [PyData.depth]
  omega
theorem neq_nil : ∀ ns : List Int, (!PyData.eqv (.list (ns.map PyData.int)) (.list [])) = !ns.isEmpty
  | [] => by simp only [List.map_nil, PyData.eqv, PyData.eqvAll, List.isEmpty_nil]
  | n :: ns => by simp only [List.map_cons, PyData.eqv, PyData.eqvAll, List.isEmpty_cons]

def num1 (z n : Int) : Int := (z % 2147483629 + 6101 * (n + 1) * (n + 1) + 31) * 48271 % 2147483647
theorem num1_rng (z n : Int) : -(2 ^ 64) < num1 z n ∧ num1 z n < 2 ^ 64 := by
  unfold num1
  omega
def num2 (x n : Int) : Int := (x * x + 16807 * x + (n + 1)) % 2147483587
theorem num2_rng (x n : Int) : -(2 ^ 64) < num2 x n ∧ num2 x n < 2 ^ 64 := by
  unfold num2
  omega

section
variable {P : Program} {w : World} {K : PySem.W.Frag} {mg : Str → Option Value} {base : Heap}
abbrev s_law_draw : Stmt := topS 70
theorem sc_law_draw : FnScope ["_law_deck_here", "_law_most", "_law_cell_here", "_law_mixed"] ["_law_deck_here", "_law_most"] (defScope s_law_draw) := ⟨rfl, rfl, rfl, by decide +kernel, rfl, by decide +kernel, by decide +kernel⟩
def sp_draw : Sp := fun vs H Q _ => ∃ (d c : Addr) (N most : Int), vs = [.ref d, .int most] ∧ Deck H d c N ∧ N < 2 ^ 60 ∧ 0 < most ∧ most < 2 ^ 100 ∧
  ∀ H' r, Keep d c H H' → Deck H' d c (N + 1) → 0 ≤ r → r < most → Q (.int r) H'
theorem ok_draw {f : Addr} {fd : FuncData} {k : Nat} (F : Fun K "_law_draw" "_law_draw" s_law_draw f fd) :
    FnOk P w K mg base CX0 (k + 1) f fd ["_law_deck_here", "_law_most"] sp_draw := by
  have nd := sc_law_draw.nd
  refine F.ok sc_law_draw (fun vs H Q E h => ?_) (fun cdv A outer s H vs Q E hr h => ?_)
  · obtain ⟨d, c, N, most, rfl, _⟩ := h
    rfl
  obtain ⟨d, c, N, most, rfl, D, hN, hm0, hm1, q⟩ := h
  have hcd := D.ne
  obtain ⟨cells, m, n, hd, hc, hlen, hn0, hn1⟩ := D
  refine ⟨_, (pss_cons (ps_asg (pe_op op_add (pe_ix ix_list (pv 0) pe_int (fun _ _ => rfl)) pe_int) (pg_sub (pv 0) pe_int set_list))
      (pss_cons (ps_set (i := 2) nd rfl (.inl rfl) (pe_ix ix_list (pv 0) pe_int (fun _ _ => rfl)))
      (Evl.pss_cut (ps_if (pt_cmpR (op_neD hr.units) (pe_ix ix_list (pv 0) pe_int (fun _ _ => rfl)) (pe_lst pa_nil) (nomark _))
      (pss_cons (ps_set (i := 2) nd rfl (.inl rfl) (pe_bm0 PySem.F.plainAttrs_list PySem.F.slot_list_pop PySem.F.type_list_pop mt_pop (pe_ix ix_list (pv 0) pe_int (fun _ _ => rfl))))
        (pss_one (ps_if (pt_cmpR op_ge (pv 2) (pe_op op_pow pe_int pe_int) (nomark _))
        (pss_cons (ps_expr (pe_bm PySem.F.plainAttrs_list PySem.F.slot_list_append PySem.F.type_list_append mt_append (pe_ix ix_list (pv 0) pe_int (fun _ _ => rfl)) (pa_cons (pe_op op_fdivW (pv 2) (pv 1)) pa_nil)))
          (pss_one (ps_ret (pe_op op_mod (pv 2) (pv 1)))))
        pss_nil)))
      pss_nil)
      (pss_cons (ps_set (i := 3) nd rfl (.inl rfl) (pe_op op_mod (pe_op op_mul (pe_op op_add (pe_op op_add (pe_op op_mod (pv 2) pe_int) (pe_op op_mul (pe_op op_mul pe_int (pe_ix ix_list (pv 0) pe_int (fun _ _ => rfl))) (pe_ix ix_list (pv 0) pe_int (fun _ _ => rfl)))) pe_int) pe_int) pe_int))
      (pss_cons (ps_set (i := 3) nd rfl (.inl rfl) (pe_op op_mod (pe_op op_add (pe_op op_add (pe_op op_mul (pv 3) (pv 3)) (pe_op op_mul pe_int (pv 3))) (pe_ix ix_list (pv 0) pe_int (fun _ _ => rfl))) pe_int))
      (pss_one (ps_ret (pe_op op_mod (pe_op op_fdivW (pe_op op_mod (pe_op op_mul (pv 3) (pe_op op_add (pe_op op_fdivW (pv 3) pe_int) pe_int)) pe_int) pe_int) (pv 1))))))))), ?_⟩
  refine ⟨.ref d, rfl, d, _, 2, _, rfl, rfl, .inl (.inl hd), at2, _, _, rfl, rfl, .ref d, rfl, d, _, 2, 2, rfl, rfl, hd, rfl, ?_⟩
  -- the deck with one draw more
  have h1d : upd H d (.lst [.ref c, .int m, .int (n + 1)]) d = some (.lst [.ref c, .int m, .int (n + 1)]) := upd_same
  have h1c : upd H d (.lst [.ref c, .int m, .int (n + 1)]) c = some (.lst (cells.map V.int)) := by
    rw [upd_ne hcd]
    exact hc
  have k1 : Keep d c H (upd H d (.lst [.ref c, .int m, .int (n + 1)])) := fun b o nb _ e => by
    rw [upd_ne nb]
    exact e
  refine ⟨.ref d, rfl, d, _, 1, _, rfl, rfl, .inl (.inl h1d), at1, ?_⟩
  have wd : CDivW 0 most := wide_div hm0 (b := 100) (by omega) (by decide) (by decide)
  refine ⟨fun σ' H' => ∃ (z : Int) (cells' : List Int), σ' = [some (.ref d), some (.int most), some (.int z), none] ∧ Keep d c H H' ∧ H' d = some (.lst [.ref c, .int m, .int (n + 1)]) ∧ H' c = some (.lst (cells'.map V.int)) ∧ cells'.length ≤ 63, ?_, ?_⟩
  · refine ⟨.ref d, rfl, d, _, 0, _, rfl, rfl, .inl (.inl h1d), at0, Nat.zero_le _, fun e ne => ?_⟩
    have s2 : Same (upd H d (.lst [.ref c, .int m, .int (n + 1)])) (upd (upd H d (.lst [.ref c, .int m, .int (n + 1)])) e (.lst [])) := same_upd ne
    have h2d := s2 _ _ h1d
    have h2c := s2 _ _ h1c
    have k2 := k1.trans (Keep.of s2)
    refine ⟨_, _, .lst (.inl (.inl h2c)) (dp_ints cells), .lst (.inl (.inl upd_same)) .nil, shaped_ints cells, shaped_ints [], _, rfl, ?_⟩
    rw [neq_nil]
    cases hcs : cells with
    | nil => exact iteF ⟨m, cells, rfl, k2, h2d, h2c, hlen⟩
    | cons x0 r0 =>
      refine iteT ?_
      have hne : cells ≠ [] := by
        rw [hcs]
        exact List.cons_ne_nil _ _
      have hlast : (cells.map V.int)[(cells.map V.int).length - 1]? = some (.int (cells.getLast hne)) := by
        rw [List.length_map, List.getElem?_map, ← List.getLast?_eq_getElem?, List.getLast?_eq_getLast hne]
        rfl
      refine ⟨.ref d, rfl, d, _, 0, _, rfl, rfl, .inl (.inl h2d), at0, .inl ⟨rfl, _, .inl (.inl h2c)⟩, c, _, _, rfl, rfl, h2c, hlast, ?_⟩
      have hdrop : (cells.map V.int).dropLast = cells.dropLast.map V.int := by rw [List.map_dropLast]
      rw [hdrop]
      have h3d : upd (upd (upd H d (.lst [.ref c, .int m, .int (n + 1)])) e (.lst [])) c (.lst (cells.dropLast.map V.int)) d = some (.lst [.ref c, .int m, .int (n + 1)]) := by
        rw [upd_ne hcd.symm]
        exact h2d
      have h3c : upd (upd (upd H d (.lst [.ref c, .int m, .int (n + 1)])) e (.lst [])) c (.lst (cells.dropLast.map V.int)) c = some (.lst (cells.dropLast.map V.int)) := upd_same
      have k3 : Keep d c H (upd (upd (upd H d (.lst [.ref c, .int m, .int (n + 1)])) e (.lst [])) c (.lst (cells.dropLast.map V.int))) := fun b o n1 n2 e1 => by
        rw [upd_ne n2]
        exact k2 b o n1 n2 e1
      have l3 : cells.dropLast.length + 1 ≤ 63 := by
        rw [List.length_dropLast, hcs, List.length_cons]
        rw [hcs, List.length_cons] at hlen
        omega
      generalize cells.getLast hne = z
      refine ⟨.int z, rfl, _, _, rfl, rfl, ⟨by decide, by decide, by decide⟩, _, _, rfl, rfl, _, rfl, ite2 (fun e5 => ?_) (fun e5 => ?_)⟩
      · refine ⟨.ref d, rfl, d, _, 0, _, rfl, rfl, .inl (.inl h3d), at0, .inl ⟨rfl, _, .inl (.inl h3c)⟩, .int z, rfl, .int most, rfl, z, most, rfl, rfl, wd, c, _, _, rfl, rfl, h3c, ?_, ?_⟩
        · rw [List.length_map]
          exact small1000 (by omega)
        · refine ⟨.int z, rfl, .int most, rfl, z, most, rfl, rfl, hm0, ?_⟩
          refine q _ _ ?_ ?_ (Int.emod_nonneg _ (by omega)) (Int.emod_lt_of_pos _ hm0)
          · intro b o n1 n2 e1
            rw [upd_ne n2]
            exact k3 b o n1 n2 e1
          · refine ⟨cells.dropLast ++ [z / most], m, n + 1, ?_, ?_, ?_, by omega, by omega⟩
            · rw [upd_ne hcd.symm]
              exact h3d
            · rw [upd_same, List.map_append]
              rfl
            · rw [List.length_append, List.length_singleton]
              exact l3
      · exact ⟨z, cells.dropLast, rfl, k3, h3d, h3c, by omega⟩
  · rintro σ' H' ⟨z, cells', rfl, kk, h5d, h5c, hl5⟩
    have hn2 : -(2 ^ 64) < n + 1 ∧ n + 1 < 2 ^ 64 := by omega
    refine ⟨.int z, rfl, z, 2147483629, rfl, rfl, (show (0 : Int) < 2147483629 by decide), .ref d, rfl, d, _, 2, _, rfl, rfl, .inl (.inl h5d), at2, 6101, n + 1, rfl, rfl, .inl ⟨by decide, by decide⟩, .ref d, rfl, d, _, 2, _, rfl, rfl, .inl (.inl h5d), at2, 6101 * (n + 1), n + 1, rfl, rfl, .inr hn2, _, _, rfl, rfl, _, _, rfl, rfl, _, 48271, rfl, rfl, .inr ⟨by decide, by decide⟩, _, 2147483647, rfl, rfl, (show (0 : Int) < 2147483647 by decide), ?_⟩
    have b1 := num1_rng z n
    refine ⟨.int (num1 z n), rfl, .int (num1 z n), rfl, num1 z n, num1 z n, rfl, rfl, .inl b1, .int (num1 z n), rfl, 16807, num1 z n, rfl, rfl, .inr b1, _, _, rfl, rfl, .ref d, rfl, d, _, 2, _, rfl, rfl, .inl (.inl h5d), at2, _, _, rfl, rfl, _, 2147483587, rfl, rfl, (show (0 : Int) < 2147483587 by decide), ?_⟩
    have b2 := num2_rng (num1 z n) n
    refine ⟨.int (num2 (num1 z n) n), rfl, .int (num2 (num1 z n) n), rfl, num2 (num1 z n) n, 5, rfl, rfl, ⟨by decide, by decide⟩, _, _, rfl, rfl, num2 (num1 z n) n, _, rfl, rfl, .inl b2, _, 2147483579, rfl, rfl, (show (0 : Int) < 2147483579 by decide), _, 64, rfl, rfl, ⟨by decide, by decide⟩, .int most, rfl, _, most, rfl, rfl, hm0, ?_⟩
    exact q _ _ kk ⟨cells', m, n + 1, h5d, h5c, hl5, by omega, by omega⟩ (Int.emod_nonneg _ (by omega)) (Int.emod_lt_of_pos _ hm0)
end
theorem Keep.seq {K : PySem.W.Frag} {d c a : Addr} {H H' : Hp} {xs : List V} (s : Keep d c H H') (h : SqL K H a xs) (h1 : a ≠ d) (h2 : a ≠ c) : SqL K H' a xs := by
  rcases h with (h | ⟨o, h⟩) | h
  · exact .inl (.inl (s _ _ h1 h2 h))
  · exact .inl (.inr ⟨o, s _ _ h1 h2 h⟩)
  · exact .inr h
theorem cut63 (ns : List Int) : ∃ ms : List Int, cutV (ns.map V.int) none (some 63) = ms.map V.int ∧ ms.length ≤ 63 := by
  refine ⟨ns.take (min 63 ns.length), ?_, ?_⟩
  · unfold cutV
    rw [HT.sIx_none, show HT.sIx (ns.map V.int).length (ns.map V.int).length (some 63) = min 63 (ns.map V.int).length from HT.sIx_nat _ _ 63, List.drop_zero, List.map_take, List.length_map, Nat.sub_zero]
  · rw [List.length_take]
    omega
theorem small_le {n : Nat} (h : n ≤ 1000) : n ≤ sizeLine := Nat.le_of_lt (small1000 h)
section
variable {P : Program} {w : World} {K : PySem.W.Frag} {mg : Str → Option Value} {base : Heap}
abbrev s_law_deck : Stmt := topS 69
theorem sc_law_deck : FnScope ["_law_script", "_law_cells"] ["_law_script"] (defScope s_law_deck) := ⟨rfl, rfl, rfl, by decide +kernel, rfl, by decide +kernel, by decide +kernel⟩
def sp_deck (K : PySem.W.Frag) : Sp := fun vs H Q _ => ∃ (a : Addr) (ns : List Int), vs = [.ref a] ∧ SqL K H a (ns.map V.int) ∧ ∀ H' d c, Same H H' → H d = none → Deck H' d c 0 → Q (.ref d) H'
theorem ok_deck {f : Addr} {fd : FuncData} {k : Nat} (F : Fun K "_law_deck" "_law_deck" s_law_deck f fd) (mlist : mg "list" = none) (msum : mg "sum" = none) (mlen : mg "len" = none) :
    FnOk P w K mg base CX0 (k + 1) f fd ["_law_script"] (sp_deck K) := by
  have nd := sc_law_deck.nd
  refine F.ok sc_law_deck (fun vs H Q E h => ?_) (fun cdv A outer s H vs Q E hr h => ?_)
  · obtain ⟨a, ns, rfl, _⟩ := h
    rfl
  obtain ⟨a, ns, rfl, hS, q⟩ := h
  obtain ⟨ms, hms, hl⟩ := cut63 ns
  refine ⟨_, (pss_cons (ps_set (i := 1) nd rfl (.inl rfl) (pe_callTy call_list_of (by rfl) mlist boot_list (pa_cons (pe_slice sl_list (pv 0) po_none (po_some pe_int)) pa_nil)))
      (pss_one (ps_ret (pe_lst (pa_cons (pe_revL (pv 1)) (pa_cons (pe_op op_add (pe_op op_mod (pe_callB (cr_sum rfl) (by rfl) msum boot_sum (pa_cons (pv 1) pa_nil)) pe_int) (pe_op op_mul pe_int (pe_callB call_len_seq (by rfl) mlen PySem.boot_len (pa_cons (pv 1) pa_nil)))) (pa_cons pe_int pa_nil))))))), ?_⟩
  refine ⟨.ref a, rfl, 63, rfl, a, _, rfl, hS, fun p np => ?_⟩
  rw [hms]
  have s1 : Same H (upd H p (.lst (ms.map V.int))) := same_upd np
  refine ⟨p, _, rfl, .inl (.inl (.inl upd_same)), fun l nl => ?_⟩
  have s2 := same_upd (o := .lst (ms.map V.int)) nl
  have hl2 : SqL K (upd (upd H p (.lst (ms.map V.int))) l (.lst (ms.map V.int))) l (ms.map V.int) := .inl (.inl upd_same)
  refine ⟨.ref l, rfl, l, _, rfl, hl2, fun c nc => ?_⟩
  have s3 := same_upd (o := .lst (ms.map V.int).reverse) nc
  refine ⟨.ref l, rfl, l, ms, rfl, s3.seq hl2, _, 2147483629, rfl, rfl, (show (0 : Int) < 2147483629 by decide), .ref l, rfl, l, _, rfl, .inl (s3.seq hl2), 40692, _, rfl, rfl, .inl ⟨by decide, by decide⟩, _, _, rfl, rfl, small_le (show 3 ≤ 1000 by decide), fun d nd' => ?_⟩
  refine q _ d c ((s1.trans s2).trans (s3.trans (same_upd nd'))) ?_ ?_
  · exact s1.free (s2.free (s3.free nd'))
  · refine ⟨ms.reverse, _, 0, upd_same, ?_, ?_, Int.le_refl 0, Int.le_refl 0⟩
    · have : c ≠ d := ne_of_none (show upd _ c _ c = _ from upd_same) nd'
      rw [upd_ne this, upd_same, List.map_reverse]
    · rw [List.length_reverse]
      exact hl
end
theorem Deck.new {H : Hp} {d c a : Addr} {N : Int} (D : Deck H d c N) (na : H a = none) : a ≠ d ∧ a ≠ c := by
  obtain ⟨cells, m, n, h1, h2, _⟩ := D
  exact ⟨(ne_of_none h1 na).symm, (ne_of_none h2 na).symm⟩
theorem Keep.free {d c a : Addr} {H H' : Hp} (s : Keep d c H H') (na : H' a = none) (h1 : a ≠ d) (h2 : a ≠ c) : H a = none := by
  cases q : H a with
  | none => rfl
  | some o =>
    rw [s a o h1 h2 q] at na
    cases na
end L10

namespace L10
open PySem PySem.Spec PyProof.Rows L2 GR
abbrev L26 : Str := "abcdefghijklmnopqrstuvwxyz"
def sgn (c : Nat) : Str := ⟨#[c]⟩
theorem l26_len : L26.length = 26 := by decide
theorem l26_at : ∀ k, k < 26 → L26.cps.toList[k]? = some (97 + k) := by decide
theorem l26_occ : ∀ k, k < 26 → Builtin.Str.occurrences L26 (sgn (97 + k)) 0 L26.length 1 = [k] := by decide +kernel
def Low (c : Nat) : Prop := 97 ≤ c ∧ c ≤ 122
/-- the words that are no names -/
def barred : List Str := ["key", "if", "at", "count", "sum", "most", "first", "let", "need", "put", "each", "tell"]
/-- a name -/
def Nm (z : Str) : Prop := 1 ≤ z.cps.toList.length ∧ z.cps.toList.length ≤ 8 ∧ (∀ c, c ∈ z.cps.toList → Low c) ∧ z ∉ barred
theorem nm_lit {z : Str} (h : (decide (1 ≤ z.cps.toList.length) && decide (z.cps.toList.length ≤ 8) && z.cps.toList.all (fun c => decide (97 ≤ c) && decide (c ≤ 122)) && decide (z ∉ barred)) = true) : Nm z := by
  simp only [Bool.and_eq_true, decide_eq_true_eq, List.all_eq_true] at h
  obtain ⟨⟨⟨h1, h2⟩, h3⟩, h4⟩ := h
  exact ⟨h1, h2, fun c hc => h3 c hc, h4⟩
abbrev L4 : Str := "qzjx"
abbrev heads : List Nat := [113, 122, 106, 120]
theorem l4_len : L4.length = 4 := by decide
theorem l4_at : ∀ k, k < 4 → ∃ c, L4.cps.toList[k]? = some c ∧ c ∈ heads := by
  intro k hk
  match k, hk with
  | 0, _ => exact ⟨113, by decide, by decide⟩
  | 1, _ => exact ⟨122, by decide, by decide⟩
  | 2, _ => exact ⟨106, by decide, by decide⟩
  | 3, _ => exact ⟨120, by decide, by decide⟩
theorem barred_w : ∀ z, z ∈ barred → 2 ≤ z.cps.toList.length ∧ ∀ c, c ∈ heads → z.cps.toList.head? ≠ some c := by decide
theorem barred_q : ∀ z, z ∈ barred → z.cps.toList.head? ≠ some 113 := by decide
/-- the text of single signs, joined -/
theorem join_signs : ∀ cs : List Nat, (Txt.join Str.empty (cs.map sgn)).cps.toList = cs := by
  intro cs
  have hj : ∀ cs : List Nat, TL.joinL [] (cs.map fun c => [c]) = cs := by
    intro cs
    induction cs with
    | nil => rfl
    | cons a r ih =>
      cases r with
      | nil => rfl
      | cons b r =>
        show [a] ++ ([] ++ TL.joinL [] ((b :: r).map fun c => [c])) = a :: b :: r
        rw [ih]
        rfl
  have := TL.tl_join Str.empty (cs.map sgn)
  rw [List.map_map] at this
  rw [TL.join_eq]
  exact this.trans (hj cs)
section
variable {P : Program} {w : World} {K : PySem.W.Frag} {mg : Str → Option Value} {base : Heap}
abbrev s_law_pick : Stmt := topS 71
theorem sc_law_pick : FnScope ["_law_deck_here", "_law_some"] ["_law_deck_here", "_law_some"] (defScope s_law_pick) := ⟨rfl, rfl, rfl, by decide +kernel, rfl, by decide +kernel, by decide +kernel⟩
/-- a pick from a list, or from the letters -/
def sp_pick (K : PySem.W.Frag) : Sp := fun vs H Q _ =>
  (∃ (d c a : Addr) (N : Int) (xs : List V), vs = [.ref d, .ref a] ∧ Deck H d c N ∧ N < 2 ^ 60 ∧ SqL K H a xs ∧ xs ≠ [] ∧ xs.length ≤ 1000 ∧ a ≠ d ∧ a ≠ c ∧ ∀ H' v, Keep d c H H' → Deck H' d c (N + 1) → v ∈ xs → Q v H') ∨
  (∃ (d c : Addr) (N : Int), vs = [.ref d, .str L26] ∧ Deck H d c N ∧ N < 2 ^ 60 ∧ ∀ H' k, Keep d c H H' → Deck H' d c (N + 1) → k < 26 → Q (.str (sgn (97 + k))) H') ∨
  (∃ (d c : Addr) (N : Int), vs = [.ref d, .str L4] ∧ Deck H d c N ∧ N < 2 ^ 60 ∧ ∀ H' k, Keep d c H H' → Deck H' d c (N + 1) → k ∈ heads → Q (.str (sgn k)) H')
theorem ok_pick {f f_law_draw : Addr} {fd fd_law_draw : FuncData} {k : Nat} (F : Fun K "_law_pick" "_law_pick" s_law_pick f fd) (G_law_draw : FnOk P w K mg base CX0 k f_law_draw fd_law_draw ["_law_deck_here", "_law_most"] sp_draw)
    (g_law_draw : mg "_law_draw" = some (.ref f_law_draw)) (K_law_draw : PySem.W.keepIn K (.ref f_law_draw) = true) (b_law_draw : Binds K fd_law_draw ["_law_deck_here", "_law_most"] []) (mlen : mg "len" = none) :
    FnOk P w K mg base CX0 (k + 1) f fd ["_law_deck_here", "_law_some"] (sp_pick K) := by
  have nd := sc_law_pick.nd
  refine F.ok sc_law_pick (fun vs H Q E h => ?_) (fun cdv A outer s H vs Q E hr h => ?_)
  · rcases h with ⟨d, c, a, N, xs, rfl, _⟩ | ⟨d, c, N, rfl, _⟩ | ⟨d, c, N, rfl, _⟩ <;> rfl
  refine ⟨_, (pss_one (ps_ret (pe_ix ix_seq (pv 1) (pe_call G_law_draw hr (by rfl) g_law_draw K_law_draw b_law_draw .nil pass0 (pa_cons (pv 0) (pa_cons (pe_callB call_len (by rfl) mlen PySem.boot_len (pa_cons (pv 1) pa_nil)) pa_nil))) (fun _ _ => rfl)))), ?_⟩
  rcases h with ⟨d, c, a, N, xs, rfl, D, hN, hS, hne, hlen, had, hac, q⟩ | ⟨d, c, N, rfl, D, hN, q⟩ | ⟨d, c, N, rfl, D, hN, q⟩
  · have hpos : 0 < xs.length := List.length_pos_iff.mpr hne
    refine ⟨.ref a, rfl, .ref d, rfl, .ref a, rfl, .ref a, xs.length, rfl, .inl ⟨xs, hS, rfl⟩, d, c, N, (xs.length : Int), rfl, D, hN, by omega, by omega, fun H' r kp D' r0 r1 => ?_⟩
    obtain ⟨j, rfl⟩ := Int.eq_ofNat_of_zero_le r0
    have hj : j < xs.length := by omega
    exact .inl ⟨a, xs, j, xs[j], rfl, rfl, kp.seq hS had hac, atI_nat (List.getElem?_eq_getElem hj), q H' _ kp D' (List.getElem_mem hj)⟩
  · refine ⟨.str L26, rfl, .ref d, rfl, .str L26, rfl, .str L26, 26, rfl, ⟨by rw [l26_len]; decide, l26_len.symm⟩, d, c, N, 26, rfl, D, hN, by decide, by decide, fun H' r kp D' r0 r1 => ?_⟩
    obtain ⟨j, rfl⟩ := Int.eq_ofNat_of_zero_le r0
    have hj : j < 26 := by omega
    exact .inr (.inr ⟨L26, j, 97 + j, rfl, rfl, by rw [l26_len]; decide, atI_nat (l26_at j hj), q H' j kp D' hj⟩)
  · refine ⟨.str L4, rfl, .ref d, rfl, .str L4, rfl, .str L4, 4, rfl, ⟨by rw [l4_len]; decide, l4_len.symm⟩, d, c, N, 4, rfl, D, hN, by decide, by decide, fun H' r kp D' r0 r1 => ?_⟩
    obtain ⟨j, rfl⟩ := Int.eq_ofNat_of_zero_le r0
    have hj : j < 4 := by omega
    obtain ⟨x, hx, hh⟩ := l4_at j hj
    exact .inr (.inr ⟨L4, j, x, rfl, rfl, by rw [l4_len]; decide, atI_nat hx, q H' x kp D' hh⟩)
end
end L10

namespace L10
open PySem PySem.Spec PyProof.Rows L2 GR
/-- lists of texts of single signs -/
def sg (cs : List Nat) : List V := (cs.map sgn).map V.str
theorem sg_length (cs : List Nat) : (sg cs).length = cs.length := by
  unfold sg
  rw [List.length_map, List.length_map]
theorem sg_snoc (cs : List Nat) (c : Nat) : sg cs ++ [V.str (sgn c)] = sg (cs ++ [c]) := by
  unfold sg
  simp
theorem sg_set (cs : List Nat) (i c : Nat) : (sg cs).set i (V.str (sgn c)) = sg (cs.set i c) := by
  unfold sg
  rw [List.map_set, List.map_set]
theorem sg_get {cs : List Nat} {i c : Nat} (h : cs[i]? = some c) : (sg cs)[i]? = some (V.str (sgn c)) := by
  unfold sg
  rw [List.getElem?_map, List.getElem?_map, h]
  rfl
/-- the signs of a name -/
structure WOk (ws : List Nat) : Prop where
  l1 : 1 ≤ ws.length
  l8 : ws.length ≤ 8
  low : ∀ c, c ∈ ws → Low c
  hd : ws.length = 1 ∨ ∃ c, ws.head? = some c ∧ c ∈ heads
theorem nm_signs {z : Str} {ws : List Nat} (hz : z.cps.toList = ws) (h : WOk ws) : Nm z := by
  refine ⟨by rw [hz]; exact h.l1, by rw [hz]; exact h.l8, by rw [hz]; exact h.low, fun hb => ?_⟩
  obtain ⟨g1, g2⟩ := barred_w z hb
  rw [hz] at g1 g2
  rcases h.hd with e | ⟨c, e, hc⟩
  · omega
  · exact g2 c hc e
theorem WOk.set {ws : List Nat} (h : WOk ws) {i c : Nat} (hi : ws.length = 1 ∨ 1 ≤ i) (hc : Low c) : WOk (ws.set i c) := by
  refine ⟨by rw [List.length_set]; exact h.l1, by rw [List.length_set]; exact h.l8, fun x hx => ?_, ?_⟩
  · rcases List.mem_or_eq_of_mem_set hx with hx | rfl
    · exact h.low x hx
    · exact hc
  · rw [List.length_set]
    rcases h.hd with e | ⟨x, e, hx⟩
    · exact .inl e
    · rcases hi with e1 | hi
      · exact .inl e1
      · refine .inr ⟨x, ?_, hx⟩
        obtain ⟨i, rfl⟩ : ∃ j, i = j + 1 := ⟨i - 1, by omega⟩
        cases ws with
        | nil => simp at e
        | cons y r => simpa using e
theorem heads_low : ∀ c, c ∈ heads → Low c := by unfold Low; decide
theorem sgn_length (cs : List Nat) : ((cs.map sgn).map (·.length)).sum = cs.length := by
  induction cs with
  | nil => rfl
  | cons c r ih =>
    rw [List.map_cons, List.map_cons, List.sum_cons, ih, List.length_cons]
    show 1 + r.length = r.length + 1
    omega
section
variable {P : Program} {w : World} {K : PySem.W.Frag} {mg : Str → Option Value} {base : Heap}
abbrev s_law_names : Stmt := topS 72
abbrev N_names : List Str := ["_law_deck_here", "_law_many", "_law_letters", "_law_k", "_law_word", "_law_at", "_law_first", "_law_found"]
theorem sc_law_names : FnScope N_names ["_law_deck_here", "_law_many"] (defScope s_law_names) := ⟨rfl, rfl, rfl, by decide +kernel, rfl, by decide +kernel, by decide +kernel⟩
/-- a new list of names -/
def sp_names : Sp := fun vs H Q _ => ∃ (d c : Addr) (N : Int) (many : Nat), vs = [.ref d, .int (many : Int)] ∧ Deck H d c N ∧ N < 2 ^ 55 ∧ many ≤ 26 ∧
  ∀ H' p (zs : List Str), Keep d c H H' → Deck H' d c (N + 20) → H p = none → H' p = some (.lst (zs.map V.str)) → zs.length = many → (∀ z, z ∈ zs → Nm z) → zs.Nodup → Q (.ref p) H'
theorem ok_names {f f_law_draw f_law_pick : Addr} {fd fd_law_draw fd_law_pick : FuncData} {k : Nat} (F : Fun K "_law_names" "_law_names" s_law_names f fd) (G_law_draw : FnOk P w K mg base CX0 k f_law_draw fd_law_draw ["_law_deck_here", "_law_most"] sp_draw)
    (g_law_draw : mg "_law_draw" = some (.ref f_law_draw)) (K_law_draw : PySem.W.keepIn K (.ref f_law_draw) = true) (b_law_draw : Binds K fd_law_draw ["_law_deck_here", "_law_most"] [])
    (G_law_pick : FnOk P w K mg base CX0 k f_law_pick fd_law_pick ["_law_deck_here", "_law_some"] (sp_pick K))
    (g_law_pick : mg "_law_pick" = some (.ref f_law_pick)) (K_law_pick : PySem.W.keepIn K (.ref f_law_pick) = true) (b_law_pick : Binds K fd_law_pick ["_law_deck_here", "_law_some"] [])
    (mrange : mg "range" = none) (mlen : mg "len" = none) : FnOk P w K mg base CX0 (k + 1) f fd ["_law_deck_here", "_law_many"] sp_names := by
  have nd := sc_law_names.nd
  refine F.ok sc_law_names (fun vs H Q E h => ?_) (fun cdv A outer s H vs Q E hr h => ?_)
  · obtain ⟨d, c, N, many, rfl, _⟩ := h
    rfl
  obtain ⟨d, c, N, many, rfl, D, hN, hmany, q⟩ := h
  refine ⟨_, (pss_cons (ps_set (i := 2) nd rfl (.inr rfl) pe_str)
      (Evl.pss_cut (ps_set (i := 4) nd rfl (.inl rfl) (pe_op op_cat (pe_lst (pa_cons (pe_call G_law_pick hr (by rfl) g_law_pick K_law_pick b_law_pick .nil pass0 (pa_cons (pv 0) (pa_cons pe_str pa_nil))) pa_nil)) (pe_lc (own := [("_law_k", 3)]) rfl nd (pi_range1 rfl mrange (pa_cons (pe_call G_law_draw hr (by rfl) g_law_draw K_law_draw b_law_draw .nil pass0 (pa_cons (pv 0) (pa_cons pe_int pa_nil))) pa_nil)) (blkOk_by (N := N_names) (sc := defScope s_law_names) (by decide +kernel)) (fun _ _ _ _ _ => (pg_name (i := 3) nd rfl (Or.inl rfl))) (fun _ _ _ _ _ => pts_nil)
          (te := tCall (sp_pick K) [] E0 (tCons (tVar 0) (tCons (tVar 2) tNil)))
          (fun _ _ _ _ _ => (pe_call G_law_pick hr (by rfl) g_law_pick K_law_pick b_law_pick .nil pass0 (pa_cons (pv 0) (pa_cons (pv 2) pa_nil)))))))
      (Evl.pss_cut (ps_set (i := 5) nd rfl (.inl rfl) (pe_ifExp (pt_cmpR op_eq (pe_callB call_len_seq (by rfl) mlen PySem.boot_len (pa_cons (pv 4) pa_nil)) pe_int (nomark _)) (pe_op op_sub (pe_callB call_len_seq (by rfl) mlen PySem.boot_len (pa_cons (pv 4) pa_nil)) pe_int) (pe_op op_add pe_int (pe_call G_law_draw hr (by rfl) g_law_draw K_law_draw b_law_draw .nil pass0 (pa_cons (pv 0) (pa_cons (pe_op op_sub (pe_callB call_len_seq (by rfl) mlen PySem.boot_len (pa_cons (pv 4) pa_nil)) pe_int) pa_nil))))))
      (pss_cons (ps_set (i := 6) nd rfl (.inl rfl) (pe_bm PySem.F.plainAttrs_str PySem.F.slot_str_index PySem.F.type_str_index mt_sindex (pv 2) (pa_cons (pe_ix ix_list (pv 4) (pv 5) (fun _ _ => rfl)) pa_nil)))
      (pss_cons (ps_set (i := 7) nd rfl (.inl rfl) (pe_lst pa_nil))
      (pss_cons (ps_for PassesOwn.never rfl (pi_range1 rfl mrange (pa_cons (pv 1) pa_nil)) (pg_name (i := 3) nd rfl (Or.inl rfl))
      (pss_cons (ps_asg (pe_ix ix_str (pv 2) (pe_op op_mod (pe_op op_add (pv 6) (pv 3)) pe_int) (fun _ _ => rfl)) (pg_sub (pv 4) (pv 5) set_list))
        (pss_one (ps_expr (pe_bm PySem.F.plainAttrs_list PySem.F.slot_list_append PySem.F.type_list_append mt_append (pv 7) (pa_cons (pe_join pe_str (pv 4)) pa_nil))))))
      (pss_one (ps_ret (pv 7))))))))), ?_⟩
  -- word
  refine ⟨fun σ' H' => ∃ wd ws, σ' = [some (.ref d), some (.int (many : Int)), some (.str L26), none, some (.ref wd), none, none, none] ∧ Keep d c H H' ∧ Deck H' d c (N + 10) ∧ H wd = none ∧ wd ≠ d ∧ wd ≠ c ∧ H' wd = some (.lst (sg ws)) ∧ WOk ws, ?_, ?_⟩
  · refine ⟨.ref d, rfl, .inr (.inr ⟨d, c, N, rfl, D, by omega, fun H0 k0 kp0 D0 hk0 => ?_⟩)⟩
    refine ⟨Nat.le_of_lt (small1000 (show 1 ≤ 1000 by decide)), fun l nl => ?_⟩
    have sl := same_upd (o := .lst [.str (sgn k0)]) nl
    have D1 := D0.same sl
    have hl := D0.new nl
    have hl1 : upd H0 l (.lst [.str (sgn k0)]) l = some (.lst [.str (sgn k0)]) := upd_same
    refine ⟨.ref d, rfl, d, c, N + 1, 8, rfl, D1, by omega, by decide, by decide, fun H1 r k1 D2 r0 r1 => ?_⟩
    obtain ⟨n, rfl⟩ := Int.eq_ofNat_of_zero_le r0
    refine ⟨(n : Int), rfl, by omega, by omega, fun B nB => ?_⟩
    have hB := D2.new nB
    have nlB : l ≠ B := ne_of_none (k1 _ _ hl.1 hl.2 hl1) nB
    have e1n : ((n : Int)).toNat = n := by omega
    rw [e1n]
    refine lc_range (n := n) (fun i H' => ∃ cs, cs.length = i ∧ (∀ x, x ∈ cs → Low x) ∧ H' B = some (.lst (sg cs)) ∧ (∀ b o, b ≠ d → b ≠ c → b ≠ B → H1 b = some o → H' b = some o) ∧ Deck H' d c (N + 2 + (i : Int))) ?_ ?_ ?_
    · refine ⟨[], rfl, fun x hx => (nomatch hx), upd_same, fun b o _ _ nb e => by rw [upd_ne nb]; exact e, ?_⟩
      exact (D2.same (same_upd nB)).mono (by omega)
    · rintro i H3 hi ⟨cs, hlen, hlow, hB3, k3, D3⟩
      refine ⟨rfl, yes_then ⟨.ref d, rfl, .str L26, rfl, .inr (.inl ⟨d, c, _, rfl, D3, by omega, fun H4 j k4 D4 hj => ?_⟩)⟩⟩
      refine ⟨_, k4 _ _ hB.1 hB.2 hB3, ?_, cs ++ [97 + j], ?_, ?_, ?_, ?_, ?_⟩
      · rw [sg_length]
        exact small1000 (by omega)
      · rw [List.length_append, hlen]
        rfl
      · intro x hx
        rcases List.mem_append.mp hx with hx | hx
        · exact hlow x hx
        · rw [List.mem_singleton.mp hx]
          unfold Low
          omega
      · rw [upd_same, sg_snoc]
      · intro b o n1 n2 n3 e
        rw [upd_ne n3]
        exact k4 _ _ n1 n2 (k3 b o n1 n2 n3 e)
      · obtain ⟨cells, m, x, g1, g2, g3, g4, g5⟩ := D4
        refine ⟨cells, m, x, ?_, ?_, g3, g4, by omega⟩
        · rw [upd_ne hB.1.symm]
          exact g1
        · rw [upd_ne hB.2.symm]
          exact g2
    · rintro H3 ⟨cs, hlen, hlow, hB3, k3, D3⟩
      have hl3 := k3 _ _ hl.1 hl.2 nlB (k1 _ _ hl.1 hl.2 hl1)
      refine ⟨l, B, _, _, rfl, rfl, hl3, hB3, ?_, fun wd nwd => ?_⟩
      · rw [sg_length]
        exact small_le (show 1 + cs.length ≤ 1000 by omega)
      have hw := D3.new nwd
      have sw := same_upd (o := .lst ([.str (sgn k0)] ++ sg cs)) nwd
      have k01 : Keep d c H H1 := kp0.trans ((Keep.of sl).trans k1)
      refine ⟨wd, k0 :: cs, rfl, ?_, (D3.same sw).mono (by omega), ?_, hw.1, hw.2, ?_, ⟨by rw [List.length_cons]; omega, by rw [List.length_cons]; omega, ?_, .inr ⟨k0, rfl, hk0⟩⟩⟩
      · intro b o n1 n2 e
        refine sw _ _ (k3 b o n1 n2 ?_ (k01 _ _ n1 n2 e))
        exact ne_of_none (k01 _ _ n1 n2 e) nB
      · cases e : H wd with
        | none => rfl
        | some o =>
          have nb := ne_of_none (k01 _ _ hw.1 hw.2 e) nB
          rw [k3 wd o hw.1 hw.2 nb (k01 _ _ hw.1 hw.2 e)] at nwd
          cases nwd
      · exact upd_same
      · intro x hx
        rcases List.mem_cons.mp hx with rfl | hx
        · exact heads_low _ hk0
        · exact hlow x hx
  rintro σ' H1 ⟨wd, ws, rfl, k1, D1, nwd, hwd, hwc, hw1, ok⟩
  -- at
  refine ⟨fun σ' H' => ∃ at' : Nat, σ' = [some (.ref d), some (.int (many : Int)), some (.str L26), none, some (.ref wd), some (.int (at' : Int)), none, none] ∧ Keep d c H1 H' ∧ Deck H' d c (N + 11) ∧ at' < ws.length ∧ (ws.length = 1 ∨ 1 ≤ at'), ?_, ?_⟩
  · have ol := ok.l1
    have o8 := ok.l8
    refine ⟨.ref wd, rfl, wd, _, rfl, .inl (.inl (.inl hw1)), rfl, _, rfl, ite2 (fun e => ?_) (fun e => ?_)⟩
    · rw [sg_length] at e
      have e1 : ws.length = 1 := by
        have := of_decide_eq_true e
        injection this with this
        omega
      refine ⟨.ref wd, rfl, wd, _, rfl, .inl (.inl (.inl hw1)), _, 1, rfl, rfl, 0, ?_, fun _ _ _ _ e => e, D1.mono (by omega), by omega, .inl e1⟩
      rw [sg_length, e1]
      rfl
    · rw [sg_length] at e
      have e1 : ws.length ≠ 1 := fun h => e (decide_eq_true (by rw [h]; rfl))
      refine ⟨.ref d, rfl, .ref wd, rfl, wd, _, rfl, .inl (.inl (.inl hw1)), _, 1, rfl, rfl, d, c, N + 10, ((sg ws).length : Int) - 1, rfl, D1, by omega, ?_, ?_, fun H2 r k2 D2 r0 r1 => ?_⟩
      · rw [sg_length]
        omega
      · rw [sg_length]
        omega
      rw [sg_length] at r1
      obtain ⟨j, rfl⟩ := Int.eq_ofNat_of_zero_le r0
      exact ⟨_, _, rfl, rfl, j + 1, by rw [show (((j + 1 : Nat)) : Int) = 1 + (j : Int) by omega]; rfl, k2, D2.mono (by omega), by omega, .inr (by omega)⟩
  rintro σ' H2 ⟨j, rfl, k2, D2, hj, hj1⟩
  have hw2 := k2 _ _ hwd hwc hw1
  have hcj : ws[j]? = some ws[j] := List.getElem?_eq_getElem hj
  have hlj := ok.low _ (List.getElem_mem hj)
  obtain ⟨m, hm, hm26⟩ : ∃ m, ws[j] = 97 + m ∧ m < 26 := ⟨ws[j] - 97, by unfold Low at hlj; omega, by unfold Low at hlj; omega⟩
  refine ⟨.str L26, rfl, rfl, .ref wd, rfl, .int ((j : Int)), rfl, wd, _, (j : Int), .str (sgn (97 + m)), rfl, rfl, .inl (.inl hw2), at_of (j := j) (by omega) (by rw [sg_get hcj, hm]), L26, sgn (97 + m), m, [], rfl, rfl, l26_occ m hm26, ?_⟩
  refine ⟨Nat.zero_le _, fun fo nfo => ?_⟩
  have sf := same_upd (o := .lst []) nfo
  have hfo := D2.new nfo
  have nwf : wd ≠ fo := ne_of_none hw2 nfo
  refine ⟨.int (many : Int), rfl, (many : Int), rfl, by omega, by omega, ?_⟩
  have emany : ((many : Int)).toNat = many := by omega
  rw [emany]
  refine for_range (n := many) (fun i σ H' => ∃ (y3 : Option V) (ws' : List Nat) (zs : List Str), σ = [some (.ref d), some (.int (many : Int)), some (.str L26), y3, some (.ref wd), some (.int ((j : Int))), some (.int (m : Int)), some (.ref fo)] ∧ H' wd = some (.lst (sg ws')) ∧ ws'.length = ws.length ∧ WOk ws' ∧
      H' fo = some (.lst (zs.map V.str)) ∧ zs.length = i ∧ (∀ z, z ∈ zs → Nm z) ∧ (∀ z, z ∈ zs → ∃ l, l < i ∧ z.cps.toList[j]? = some (97 + (m + l) % 26)) ∧ zs.Nodup ∧ (∀ b o, b ≠ wd → b ≠ fo → H2 b = some o → H' b = some o)) ?_ ?_ ?_
  · refine ⟨none, ws, [], rfl, ?_, rfl, ok, upd_same, rfl, fun z hz => (nomatch hz), fun z hz => (nomatch hz), List.nodup_nil, fun b o n1 n2 e => by rw [upd_ne n2]; exact e⟩
    rw [upd_ne nwf]
    exact hw2
  · rintro i σ H3 hi ⟨y3, ws', zs, rfl, hw3, hl3, ok3, hf3, hz3, hnm3, hlt3, hnd3, k3⟩
    have hmod : ∃ t : Nat, ((m : Int) + (0 + (i : Int))) % 26 = (t : Int) ∧ t < 26 ∧ t = (m + i) % 26 := ⟨(m + i) % 26, by omega, Nat.mod_lt _ (by decide), rfl⟩
    obtain ⟨t, ht, ht26, htm⟩ := hmod
    have hnew : (Txt.join Str.empty ((ws'.set j (97 + t)).map sgn)).cps.toList[j]? = some (97 + (m + i) % 26) := by
      rw [join_signs, List.getElem?_set_self (by rw [hl3]; exact hj), htm]
    refine ⟨.str L26, rfl, .int (m : Int), rfl, .int (0 + (i : Int)), rfl, _, _, rfl, rfl, _, 26, rfl, rfl, (show (0 : Int) < 26 by decide), L26, (t : Int), 97 + t, rfl, congrArg V.int ht, by rw [l26_len]; decide, atI_nat (l26_at t ht26), ?_⟩
    have hix : ixN (sg ws').length ((j : Int)) = some j := by
      unfold ixN
      rw [if_pos (by omega), if_pos (by rw [sg_length]; omega)]
      exact congrArg some (by omega)
    refine ⟨.ref wd, rfl, .int ((j : Int)), rfl, wd, _, (j : Int), j, rfl, rfl, hw3, hix, ?_⟩
    have hset : (sg ws').set j (.str (sgn (97 + t))) = sg (ws'.set j (97 + t)) := sg_set _ _ _
    have hw4 : upd H3 wd (.lst ((sg ws').set j (.str (sgn (97 + t))))) wd = some (.lst (sg (ws'.set j (97 + t)))) := by rw [upd_same, hset]
    have hf4 : upd H3 wd (.lst ((sg ws').set j (.str (sgn (97 + t))))) fo = some (.lst (zs.map V.str)) := by
      rw [upd_ne nwf.symm]
      exact hf3
    refine ⟨.ref fo, rfl, .inl ⟨rfl, _, .inl (.inl hf4)⟩, ⟨_, rfl⟩, .ref wd, rfl, Str.empty, wd, (ws'.set j (97 + t)).map sgn, rfl, rfl, .inl (.inl (.inl hw4)), ?_, fo, _, _, rfl, rfl, hf4, ?_, ?_⟩
    · have o8 := ok.l8
      rw [sgn_length, List.length_map, List.length_set]
      show _ + _ * 0 ≤ _
      omega
    · rw [List.length_map]
      exact small1000 (by omega)
    · refine ⟨_, ws'.set j (97 + t), zs ++ [Txt.join Str.empty ((ws'.set j (97 + t)).map sgn)], rfl, ?_, by rw [List.length_set]; exact hl3, ?_, ?_, by rw [List.length_append, hz3]; rfl, ?_, ?_, ?_, ?_⟩
      · rw [upd_ne nwf]
        exact hw4
      · exact ok3.set (by rw [hl3]; exact hj1) (by unfold Low; omega)
      · rw [upd_same, List.map_append]
        rfl
      · intro z hz
        rcases List.mem_append.mp hz with hz | hz
        · exact hnm3 z hz
        · rw [List.mem_singleton.mp hz]
          exact nm_signs (join_signs _) (ok3.set (by rw [hl3]; exact hj1) (by unfold Low; omega))
      · intro z hz
        rcases List.mem_append.mp hz with hz | hz
        · obtain ⟨l, h1, h2⟩ := hlt3 z hz
          exact ⟨l, by omega, h2⟩
        · rw [List.mem_singleton.mp hz]
          exact ⟨i, by omega, hnew⟩
      · refine List.nodup_append.mpr ⟨hnd3, List.nodup_cons.mpr ⟨List.not_mem_nil, List.nodup_nil⟩, fun a ha b hb e => ?_⟩
        rw [List.mem_singleton.mp hb] at e
        obtain ⟨l, h1, h2⟩ := hlt3 a ha
        rw [e, hnew] at h2
        have := Option.some.inj h2
        omega
      · intro b o n1 n2 e
        rw [upd_ne n2, upd_ne n1]
        exact k3 b o n1 n2 e
  · rintro σ H3 ⟨y3, ws', zs, rfl, hw3, hl3, ok3, hf3, hz3, hnm3, hlt3, hnd3, k3⟩
    have nHfo : H fo = none := (k1.trans k2).free nfo hfo.1 hfo.2
    refine ⟨.ref fo, rfl, q H3 fo zs ?_ ?_ nHfo hf3 hz3 hnm3 hnd3⟩
    · intro b o n1 n2 e
      exact k3 b o (ne_of_none e nwd) (ne_of_none e nHfo) (k2 _ _ n1 n2 (k1 _ _ n1 n2 e))
    · obtain ⟨cells, mm, x, e1, e2, e3, e4, e5⟩ := D2
      exact ⟨cells, mm, x, k3 _ _ hwd.symm hfo.1.symm e1, k3 _ _ hwc.symm hfo.2.symm e2, e3, e4, by omega⟩
end
end L10

namespace L10
open PySem PySem.Spec PyProof.Rows L2 GR
theorem Deck.upd {H : Hp} {d c p : Addr} {N : Int} {o : HO} (D : Deck H d c N) (h1 : p ≠ d) (h2 : p ≠ c) : Deck (L2.upd H p o) d c N := by
  obtain ⟨cells, m, n, e1, e2, e3⟩ := D
  exact ⟨cells, m, n, by rw [upd_ne h1.symm]; exact e1, by rw [upd_ne h2.symm]; exact e2, e3⟩
def wD (tl cl nl kl : Addr) : List (Key × V) := [(.inr "tables", .ref tl), (.inr "columns", .ref cl), (.inr "names", .ref nl), (.inr "keys", .ref kl)]
theorem wD_t (tl cl nl kl : Addr) : valV (wD tl cl nl kl) (.inr "tables") = some (.ref tl) := valV_pos rfl
theorem wD_c (tl cl nl kl : Addr) : valV (wD tl cl nl kl) (.inr "columns") = some (.ref cl) := (valV_neg (show ¬ ((.inr "tables" : Key) = .inr "columns") by decide)).trans (valV_pos rfl)
theorem wD_n (tl cl nl kl : Addr) : valV (wD tl cl nl kl) (.inr "names") = some (.ref nl) := (valV_neg (show ¬ ((.inr "tables" : Key) = .inr "names") by decide)).trans ((valV_neg (show ¬ ((.inr "columns" : Key) = .inr "names") by decide)).trans (valV_pos rfl))
theorem wD_k (tl cl nl kl : Addr) : valV (wD tl cl nl kl) (.inr "keys") = some (.ref kl) := (valV_neg (show ¬ ((.inr "tables" : Key) = .inr "keys") by decide)).trans ((valV_neg (show ¬ ((.inr "columns" : Key) = .inr "keys") by decide)).trans ((valV_neg (show ¬ ((.inr "names" : Key) = .inr "keys") by decide)).trans (valV_pos rfl)))
/-- the world at u: lists of tables, columns, variables, keys -/
structure Wd (H : Hp) (d c u tl cl nl kl : Addr) (ts cs ns : List Str) (ks : List Int) : Prop where
  dct : H u = some (.dK (wD tl cl nl kl))
  ht : H tl = some (.lst (ts.map V.str))
  hc : H cl = some (.lst (cs.map V.str))
  hn : H nl = some (.lst (ns.map V.str))
  hk : H kl = some (.lst (ks.map V.int))
  t0 : tl ≠ d ∧ tl ≠ c
  c0 : cl ≠ d ∧ cl ≠ c
  n0 : nl ≠ d ∧ nl ≠ c
  k0 : kl ≠ d ∧ kl ≠ c
  u0 : u ≠ d ∧ u ≠ c
  lt : ts.length = 2
  lc : cs.length = 3
  ln : ns.length = 3
  lk : ks.length = 5
  at' : ∀ z, z ∈ ts → Nm z
  ac : ∀ z, z ∈ cs → Nm z
  an : ∀ z, z ∈ ns → Nm z
  nd : ns.Nodup
  ak : ∀ k, k ∈ ks → -2 ≤ k ∧ k ≤ 20
theorem Wd.keep {H H' : Hp} {d c u tl cl nl kl : Addr} {ts cs ns : List Str} {ks : List Int} (W : Wd H d c u tl cl nl kl ts cs ns ks) (k : Keep d c H H') : Wd H' d c u tl cl nl kl ts cs ns ks :=
  ⟨k _ _ W.u0.1 W.u0.2 W.dct, k _ _ W.t0.1 W.t0.2 W.ht, k _ _ W.c0.1 W.c0.2 W.hc, k _ _ W.n0.1 W.n0.2 W.hn, k _ _ W.k0.1 W.k0.2 W.hk, W.t0, W.c0, W.n0, W.k0, W.u0, W.lt, W.lc, W.ln, W.lk, W.at', W.ac, W.an, W.nd, W.ak⟩
theorem in_nm : Nm "in" := nm_lit (by decide)
theorem cut_map (zs : List Str) (lo hi : Option Int) (a b : Nat) (h1 : HT.sIx zs.length 0 lo = a) (h2 : HT.sIx zs.length zs.length hi = b) : cutV (zs.map V.str) lo hi = ((zs.drop a).take (b - a)).map V.str := by
  unfold cutV
  rw [List.length_map, h1, h2, List.map_take, List.map_drop]
section
variable {P : Program} {w : World} {K : PySem.W.Frag} {mg : Str → Option Value} {base : Heap}
abbrev s_law_world : Stmt := topS 73
abbrev N_wd : List Str := ["_law_deck_here", "_law_names_here", "_law_keys", "_law_k"]
theorem sc_law_world : FnScope N_wd ["_law_deck_here"] (defScope s_law_world) := ⟨rfl, rfl, rfl, by decide +kernel, rfl, by decide +kernel, by decide +kernel⟩
def sp_world : Sp := fun vs H Q _ => ∃ (d c : Addr) (N : Int), vs = [.ref d] ∧ Deck H d c N ∧ N < 2 ^ 54 ∧
  ∀ H' u tl cl nl kl ts cs ns ks, Keep d c H H' → Deck H' d c (N + 30) → H u = none → Wd H' d c u tl cl nl kl ts cs ns ks → Q (.ref u) H'
theorem ok_world {f f_law_draw f_law_names : Addr} {fd fd_law_draw fd_law_names : FuncData} {k : Nat} (F : Fun K "_law_world" "_law_world" s_law_world f fd) (G_law_draw : FnOk P w K mg base CX0 k f_law_draw fd_law_draw ["_law_deck_here", "_law_most"] sp_draw)
    (g_law_draw : mg "_law_draw" = some (.ref f_law_draw)) (K_law_draw : PySem.W.keepIn K (.ref f_law_draw) = true) (b_law_draw : Binds K fd_law_draw ["_law_deck_here", "_law_most"] [])
    (G_law_names : FnOk P w K mg base CX0 k f_law_names fd_law_names ["_law_deck_here", "_law_many"] sp_names)
    (g_law_names : mg "_law_names" = some (.ref f_law_names)) (K_law_names : PySem.W.keepIn K (.ref f_law_names) = true) (b_law_names : Binds K fd_law_names ["_law_deck_here", "_law_many"] []) (mrange : mg "range" = none) : FnOk P w K mg base CX0 (k + 1) f fd ["_law_deck_here"] sp_world := by
  have nd := sc_law_world.nd
  refine F.ok sc_law_world (fun vs H Q E h => ?_) (fun cdv A outer s H vs Q E hr h => ?_)
  · obtain ⟨d, c, N, rfl, _⟩ := h
    rfl
  obtain ⟨d, c, N, rfl, D, hN, q⟩ := h
  refine ⟨_, (pss_cons (ps_set (i := 1) nd rfl (.inl rfl) (pe_call G_law_names hr (by rfl) g_law_names K_law_names b_law_names .nil pass0 (pa_cons (pv 0) (pa_cons pe_int pa_nil))))
      (Evl.pss_cut (ps_if (pt_cmpR op_eq (pe_call G_law_draw hr (by rfl) g_law_draw K_law_draw b_law_draw .nil pass0 (pa_cons (pv 0) (pa_cons pe_int pa_nil))) pe_int (nomark _))
      (pss_one (ps_asg (pe_ix ix_list (pv 1) pe_int (fun _ _ => rfl)) (pg_sub (pv 1) pe_int set_list)))
      pss_nil)
      (Evl.pss_cut (ps_setLc (i := 2) (own := [("_law_k", 3)]) (tt := tYes) (te := tOp (rI0 fun i j => .int (i + j)) (tOp (rI0 fun i j => .int (i - j)) (tCall sp_draw [] E0 (tCons (tVar 0) (tCons (tC (.int 9)) tNil))) (tC (.int 2))) (tOp (rI CMul fun i j => .int (i * j)) (tC (.int 3)) (tVar 3))) rfl nd rfl rfl (sw_true rfl rfl rfl (by decide +kernel)) (pi_range1 rfl mrange (pa_cons pe_int pa_nil)) (blkOk_by (N := N_wd) (sc := defScope s_law_world) (by decide +kernel)) (fun _ _ _ _ _ => (pg_name (i := 3) nd rfl (Or.inl rfl))) (fun _ _ _ _ _ => pts_nil) (fun _ _ _ _ _ => (pe_op op_add (pe_op op_sub (pe_call G_law_draw hr (by rfl) g_law_draw K_law_draw b_law_draw .nil pass0 (pa_cons (pv 0) (pa_cons pe_int pa_nil))) pe_int) (pe_op op_mul pe_int (pv 3)))))
      (pss_one (ps_ret (pe_disp (pps_cons pe_str (pe_slice sl_list (pv 1) po_none (po_some pe_int)) (pps_cons pe_str (pe_op op_cat (pe_slice sl_list (pv 1) (po_some pe_int) (po_some pe_int)) (pe_lst (pa_cons pe_str pa_nil))) (pps_cons pe_str (pe_slice sl_list (pv 1) (po_some pe_int) po_none) (pps_cons pe_str (pe_op op_cat (pv 2) (pe_lst (pa_cons pe_int (pa_cons pe_int (pa_cons pe_int pa_nil))))) pps_nil)))) (by decide) rfl (by simp) (by decide))))))), ?_⟩
  refine ⟨.ref d, rfl, d, c, N, 7, rfl, D, by omega, by decide, fun H1 p zs k1 D1 np hp hlen hnm hnd => ?_⟩
  have hpn : p ≠ d ∧ p ≠ c := by
    obtain ⟨cells, m, n, h1, h2, _⟩ := D
    exact ⟨(ne_of_none h1 np).symm, (ne_of_none h2 np).symm⟩
  refine ⟨fun σ' H' => ∃ zs' : List Str, σ' = [some (.ref d), some (.ref p), none, none] ∧ Keep d c H H' ∧ Deck H' d c (N + 25) ∧ H' p = some (.lst (zs'.map V.str)) ∧ zs'.length = 7 ∧ (zs'.drop 4).Nodup ∧ ∀ z, z ∈ zs' → Nm z, ?_, ?_⟩
  · refine ⟨.ref d, rfl, d, c, _, 4, rfl, D1, by omega, by decide, by decide, fun H2 r k2 D2 r0 r1 => ⟨rfl, _, rfl, ite2 (fun e => ?_) (fun e => ?_)⟩⟩
    · have hp2 := k2 _ _ hpn.1 hpn.2 hp
      have h2 : (zs.map V.str)[2]? = some (.str (zs[2]'(by omega))) := by
        rw [List.getElem?_map, List.getElem?_eq_getElem (by omega)]
        rfl
      refine ⟨.ref p, rfl, p, _, 2, _, rfl, rfl, .inl (.inl hp2), atI_nat (j := 2) h2, .ref p, rfl, p, _, 0, 0, rfl, rfl, hp2, ?_, ?_⟩
      · unfold ixN
        rw [if_pos (by decide), List.length_map, hlen]
        rfl
      rw [← List.map_set]
      refine ⟨_, rfl, fun b o n1 n2 e => ?_, ?_, upd_same, by rw [List.length_set, hlen], by rw [List.drop_set_of_lt (by decide)]; exact hnd.sublist (List.drop_sublist _ _), fun z hz => ?_⟩
      · rw [upd_ne (ne_of_none e np)]
        exact k2 _ _ n1 n2 (k1 _ _ n1 n2 e)
      · exact (D2.upd hpn.1 hpn.2).mono (by omega)
      · rcases List.mem_or_eq_of_mem_set hz with h | rfl
        · exact hnm z h
        · exact hnm _ (List.getElem_mem _)
    · exact ⟨zs, rfl, k1.trans k2, D2.mono (by omega), k2 _ _ hpn.1 hpn.2 hp, hlen, hnd.sublist (List.drop_sublist _ _), hnm⟩
  rintro σ' H2 ⟨zs, rfl, k2, D2, hp2, hlen, hnd4, hnm⟩
  clear k1 D1 hp
  refine ⟨fun σ' H' => ∃ (q2 : Addr) (y : Option V) (ks : List Int), σ' = [some (.ref d), some (.ref p), some (.ref q2), y] ∧ Keep d c H H' ∧ Deck H' d c (N + 28) ∧ H' p = some (.lst (zs.map V.str)) ∧ H' q2 = some (.lst (ks.map V.int)) ∧ ks.length = 2 ∧ ∀ k, k ∈ ks → -2 ≤ k ∧ k ≤ 20, ?_, ?_⟩
  · refine ⟨2, rfl, by decide, by decide, fun B nB => ?_⟩
    have hB := D2.new nB
    have sB := same_upd (o := .lst []) nB
    have npB : p ≠ B := ne_of_none hp2 nB
    refine lc_range (n := 2) (fun i H' => ∃ ks : List Int, ks.length = i ∧ (∀ k, k ∈ ks → -2 ≤ k ∧ k ≤ 20) ∧ H' B = some (.lst (ks.map V.int)) ∧ (∀ b o, b ≠ d → b ≠ c → b ≠ B → H2 b = some o → H' b = some o) ∧ Deck H' d c (N + 25 + (i : Int))) ?_ ?_ ?_
    · exact ⟨[], rfl, fun x hx => (nomatch hx), upd_same, fun b o _ _ nb e => by rw [upd_ne nb]; exact e, (D2.same sB).mono (by omega)⟩
    · rintro i H3 hi ⟨ks, hl, hks, hB3, k3, D3⟩
      refine ⟨rfl, yes_then ⟨.ref d, rfl, d, c, _, 9, rfl, D3, by omega, by decide, by decide, fun H4 r k4 D4 r0 r1 => ?_⟩⟩
      refine ⟨_, _, rfl, rfl, .int (0 + (i : Int)), rfl, _, _, rfl, rfl, .inl ⟨by decide, by decide⟩, _, _, rfl, rfl, ?_⟩
      have eM : (ks.map V.int) ++ [V.int (r - 2 + 3 * (0 + (i : Int)))] = (ks ++ [r - 2 + 3 * (0 + (i : Int))]).map V.int := by rw [List.map_append]; rfl
      refine ⟨_, k4 _ _ hB.1 hB.2 hB3, ?_, ks ++ [r - 2 + 3 * (0 + (i : Int))], ?_, ?_, ?_, ?_, ?_⟩
      · rw [List.length_map]
        exact small1000 (by omega)
      · rw [List.length_append, hl]
        rfl
      · intro k hk
        rcases List.mem_append.mp hk with hk | hk
        · exact hks k hk
        · rw [List.mem_singleton.mp hk]
          omega
      · rw [upd_same, eM]
      · intro b o n1 n2 n3 e
        rw [upd_ne n3]
        exact k4 _ _ n1 n2 (k3 b o n1 n2 n3 e)
      · exact (D4.upd hB.1 hB.2).mono (by omega)
    · rintro H3 ⟨ks, hl, hks, hB3, k3, D3⟩
      have nHB : H B = none := k2.free nB hB.1 hB.2
      exact ⟨B, _, ks, rfl, fun b o n1 n2 e => k3 b o n1 n2 (ne_of_none e nHB) (k2 _ _ n1 n2 e), D3.mono (by omega), k3 _ _ hpn.1 hpn.2 npB hp2, hB3, hl, hks⟩
  clear k2 D2 hp2
  rintro σ' H2 ⟨q2, y3, ks, rfl, k2, D2, hp2, hq2, hlk, hks⟩
  intro u nu
  have su := same_upd (o := .dK []) nu
  have hu := D2.new nu
  refine ⟨.ref p, rfl, 2, rfl, p, _, rfl, .inl (.inl (su _ _ hp2)), fun tl ntl => ?_⟩
  have e1 := cut_map zs none (some 2) 0 2 rfl (by rw [show (some (2 : Int)) = some ((2 : Nat) : Int) from rfl, HT.sIx_nat, hlen]; rfl)
  have e2 := cut_map zs (some 2) (some 4) 2 4 (by rw [show (some (2 : Int)) = some ((2 : Nat) : Int) from rfl, HT.sIx_nat, hlen]; rfl) (by rw [show (some (4 : Int)) = some ((4 : Nat) : Int) from rfl, HT.sIx_nat, hlen]; rfl)
  have e3 := cut_map zs (some 4) none 4 7 (by rw [show (some (4 : Int)) = some ((4 : Nat) : Int) from rfl, HT.sIx_nat, hlen]; rfl) (by rw [HT.sIx_none, hlen])
  rw [e1]
  have s1 := same_upd (o := .lst (((zs.drop 0).take (2 - 0)).map V.str)) ntl
  refine ⟨.ref p, rfl, 2, rfl, 4, rfl, p, _, rfl, .inl (.inl (s1 _ _ (su _ _ hp2))), fun ml nml => ?_⟩
  rw [e2]
  have s2 := same_upd (o := .lst (((zs.drop 2).take (4 - 2)).map V.str)) nml
  refine ⟨small_le (show 1 ≤ 1000 by decide), fun il nil => ?_⟩
  have s3 := same_upd (o := .lst [.str "in"]) nil
  have l2 : ((zs.drop 2).take (4 - 2)).length = 2 := by rw [List.length_take, List.length_drop, hlen]; rfl
  refine ⟨ml, il, _, _, rfl, rfl, s3 _ _ upd_same, upd_same, by rw [List.length_map, l2]; exact small_le (show 3 ≤ 1000 by decide), fun cl ncl => ?_⟩
  have ec : (((zs.drop 2).take (4 - 2)).map V.str) ++ [V.str "in"] = (((zs.drop 2).take (4 - 2)) ++ [("in" : Str)]).map V.str := by rw [List.map_append]; rfl
  rw [ec]
  have s4 := same_upd (o := .lst ((((zs.drop 2).take (4 - 2)) ++ [("in" : Str)]).map V.str)) ncl
  refine ⟨.ref p, rfl, 4, rfl, p, _, rfl, .inl (.inl (s4 _ _ (s3 _ _ (s2 _ _ (s1 _ _ (su _ _ hp2)))))), fun nl nnl => ?_⟩
  rw [e3]
  have s5 := same_upd (o := .lst (((zs.drop 4).take (7 - 4)).map V.str)) nnl
  refine ⟨.ref q2, rfl, ?_⟩
  have s45 := s4.trans s5
  have s25 := s2.trans (s3.trans s45)
  have s15 := s1.trans s25
  have u5 := s15 _ _ (show upd H2 u (.dK []) u = _ from upd_same)
  have t5 := s25 _ _ (show upd (upd H2 u (.dK [])) tl (.lst (((zs.drop 0).take (2 - 0)).map V.str)) tl = _ from upd_same)
  have c5 := s5 _ _ (show upd (upd (upd (upd (upd H2 u (.dK [])) tl (.lst (((zs.drop 0).take (2 - 0)).map V.str))) ml (.lst (((zs.drop 2).take (4 - 2)).map V.str))) il (.lst [.str "in"])) cl (.lst ((((zs.drop 2).take (4 - 2)) ++ [("in" : Str)]).map V.str)) cl = _ from upd_same)
  have n5 : upd (upd (upd (upd (upd (upd H2 u (.dK [])) tl (.lst (((zs.drop 0).take (2 - 0)).map V.str))) ml (.lst (((zs.drop 2).take (4 - 2)).map V.str))) il (.lst [.str "in"])) cl (.lst ((((zs.drop 2).take (4 - 2)) ++ [("in" : Str)]).map V.str))) nl (.lst (((zs.drop 4).take (7 - 4)).map V.str)) nl = _ := upd_same
  have s05 := su.trans s15
  have dtl := D2.new (su.free ntl)
  have dcl := (D2.same (su.trans (s1.trans (s2.trans s3)))).new ncl
  have dnl := (D2.same (su.trans (s1.trans (s2.trans (s3.trans s4))))).new nnl
  clear nnl ncl nil nml ntl s1 s2 s3 s4 s5 s45 s25
  revert u5 t5 c5 n5 s05
  clear s15
  generalize upd (upd (upd (upd (upd (upd H2 u (.dK [])) tl (.lst (((zs.drop 0).take (2 - 0)).map V.str))) ml (.lst (((zs.drop 2).take (4 - 2)).map V.str))) il (.lst [.str "in"])) cl (.lst ((((zs.drop 2).take (4 - 2)) ++ [("in" : Str)]).map V.str))) nl (.lst (((zs.drop 4).take (7 - 4)).map V.str)) = H6
  intro u5 t5 c5 n5 s05
  refine ⟨small_le (show 3 ≤ 1000 by decide), fun jl njl => ?_⟩
  have s6 := same_upd (o := .lst [.int 0, .int 1, .int 2]) njl
  refine ⟨q2, jl, _, _, rfl, rfl, s6 _ _ (s05 _ _ hq2), upd_same, by rw [List.length_map, hlk]; exact small_le (show 5 ≤ 1000 by decide), fun kl nkl => ?_⟩
  have ek : (ks.map V.int) ++ [V.int 0, V.int 1, V.int 2] = (ks ++ [0, 1, 2]).map V.int := by rw [List.map_append]; rfl
  rw [ek]
  have s7 := same_upd (o := .lst ((ks ++ [0, 1, 2]).map V.int)) nkl
  have s67 := s6.trans s7
  have dkl := (D2.same (s05.trans s6)).new nkl
  have k7 : upd (upd H6 jl (.lst [.int 0, .int 1, .int 2])) kl (.lst ((ks ++ [0, 1, 2]).map V.int)) kl = _ := upd_same
  replace u5 := s67 _ _ u5
  replace t5 := s67 _ _ t5
  replace c5 := s67 _ _ c5
  replace n5 := s67 _ _ n5
  replace s05 := s05.trans s67
  clear s6 s7 s67 nkl njl
  revert u5 t5 c5 n5 s05 k7
  generalize upd (upd H6 jl (.lst [.int 0, .int 1, .int 2])) kl (.lst ((ks ++ [0, 1, 2]).map V.int)) = H7
  intro k7 u5 t5 c5 n5 s05
  have tu : tl ≠ u := ne_of t5 u5 (fun z => by cases z)
  have cu : cl ≠ u := ne_of c5 u5 (fun z => by cases z)
  have nu' : nl ≠ u := ne_of n5 u5 (fun z => by cases z)
  have ku : kl ≠ u := ne_of k7 u5 (fun z => by cases z)
  have nHu : H u = none := k2.free nu hu.1 hu.2
  refine ⟨u5, wD tl cl nl kl, rfl, (show 4 ≤ 15 by decide), q _ u tl cl nl kl ((zs.drop 0).take (2 - 0)) ((zs.drop 2).take (4 - 2) ++ [("in" : Str)]) ((zs.drop 4).take (7 - 4)) (ks ++ [0, 1, 2]) (fun b o n1 n2 e => ?_) (((D2.same s05).upd hu.1 hu.2).mono (by omega)) nHu ?_⟩
  · rw [upd_ne (ne_of_none e nHu)]
    exact s05 _ _ (k2 _ _ n1 n2 e)
  · refine ⟨upd_same, by rw [upd_ne tu]; exact t5, by rw [upd_ne cu]; exact c5, by rw [upd_ne nu']; exact n5, by rw [upd_ne ku]; exact k7, dtl, dcl, dnl, dkl, hu, by rw [List.length_take, List.length_drop, hlen]; rfl, by rw [List.length_append, l2]; rfl, by rw [List.length_take, List.length_drop, hlen]; rfl, by rw [List.length_append, hlk]; rfl, fun z hz => hnm z (List.mem_of_mem_drop (List.mem_of_mem_take hz)), fun z hz => ?_, fun z hz => hnm z (List.mem_of_mem_drop (List.mem_of_mem_take hz)), hnd4.sublist (List.take_sublist _ _), fun k hk => ?_⟩
    · rcases List.mem_append.mp hz with h | h
      · exact hnm z (List.mem_of_mem_drop (List.mem_of_mem_take h))
      · rw [List.mem_singleton.mp h]
        exact in_nm
    · rcases List.mem_append.mp hk with h | h
      · exact hks k h
      · simp only [List.mem_cons, List.not_mem_nil, or_false] at h
        rcases h with rfl | rfl | rfl <;> decide
end
end L10

namespace GR
open PySem PySem.Spec PyProof.Rows L2
theorem FnG.mono {P : Program} {w : World} {K : PySem.W.Frag} {mg : Str → Option Value} {base : Heap} {CX : CXT} {j k : Nat} {f : Addr} {fd : FuncData} {ps : List Str} {sp : Sp} (F : FnG P w K mg base CX j f fd ps sp) (h : j ≤ k) : FnG P w K mg base CX k f fd ps sp :=
  ⟨F.size, fun A outer s H args us vs Q E g hr => F.go A outer s H args us vs Q E g (hr.mono h)⟩
/-! ### the signs of what repr shows -/
abbrev SO (x : Str) : Prop := ∀ c, c ∈ x.cps.toList → c < 0x110000
theorem so_iff {x : Str} : PyData.strOk x = true ↔ SO x := by
  unfold PyData.strOk
  rw [Array.all_eq_true']
  constructor
  · intro h c hc
    have := h c (by simpa using hc)
    simpa using this
  · intro h c hc
    have := h c (by simpa using hc)
    simpa using this
theorem so_append {x y : Str} (hx : SO x) (hy : SO y) : SO (x ++ y) := fun c hc => by
  rcases mem_cps_append.mp hc with h | h
  · exact hx c h
  · exact hy c h
theorem so_join {sep : Str} (hs : SO sep) {ts : List Str} (h : ∀ t, t ∈ ts → SO t) : SO (Str.join sep ts) := fun c hc => by
  rcases (mem_join sep c ts).mp hc with ⟨t, ht, hc⟩ | ⟨_, hc⟩
  · exact h t ht c hc
  · exact hs c hc
theorem hex_so (w c : Nat) : ∀ k, k ∈ List.replicate (w - ((Nat.toDigits 16 c).map Char.toNat).length) 48 ++ (Nat.toDigits 16 c).map Char.toNat → k < 0x110000 := by
  intro k hk
  rcases List.mem_append.mp hk with h | h
  · have := List.eq_of_mem_replicate h
    omega
  · obtain ⟨ch, _, rfl⟩ := List.mem_map.mp h
    have := ch.valid
    have e : ch.toNat = ch.val.toNat := rfl
    rcases this with h | ⟨_, h⟩
    · have h' : ch.val.toNat < 0xd800 := h
      omega
    · have h' : ch.val.toNat < 0x110000 := h
      omega
theorem reprChar_so {q c : Nat} (hc : c < 0x110000) : ∀ k, k ∈ Builtin.Str.reprChar q c → k < 0x110000 := by
  intro k hk
  have h8 := hex_so 8 c k
  have h4 := hex_so 4 c k
  have h2 := hex_so 2 c k
  unfold Builtin.Str.reprChar at hk
  dsimp only at hk
  repeat' split at hk
  all_goals first
    | (rcases List.mem_append.mp hk with hk | hk
       · (simp only [List.mem_cons, List.not_mem_nil, or_false] at hk; omega)
       · first | exact h2 hk | exact h4 hk | exact h8 hk)
    | (simp only [List.mem_cons, List.not_mem_nil, or_false] at hk; omega)
theorem fold_so {q : Nat} : ∀ (l : List Nat) (acc : Array Nat), (∀ c, c ∈ l → c < 0x110000) → (∀ c, c ∈ acc.toList → c < 0x110000) → ∀ c, c ∈ (l.foldl (fun out c => out ++ (Builtin.Str.reprChar q c).toArray) acc).toList → c < 0x110000
  | [], acc, _, h => h
  | d :: r, acc, hl, h => by
    rw [List.foldl_cons]
    refine fold_so r _ (fun c hc => hl c (List.mem_cons_of_mem _ hc)) fun c hc => ?_
    rw [Array.toList_append, List.mem_append] at hc
    rcases hc with hc | hc
    · exact h c hc
    · exact reprChar_so (hl d List.mem_cons_self) c (by simpa using hc)
theorem repr_so {x : Str} (h : SO x) : SO (reprText x) := fun c hc => by
  have hq : reprQuote x < 0x110000 := by
    unfold reprQuote
    split <;> decide
  unfold reprText at hc
  have hc' : c ∈ ((x.cps.foldl (fun out c => out ++ (Builtin.Str.reprChar (reprQuote x) c).toArray) #[reprQuote x]).push (reprQuote x)).toList := hc
  rw [Array.toList_push, List.mem_append] at hc'
  rcases hc' with hc' | hc'
  · rw [← Array.foldl_toList] at hc'
    refine fold_so x.cps.toList _ h (fun c hc => ?_) c hc'
    have : c = reprQuote x := by simpa using hc
    rw [this]
    exact hq
  · have : c = reprQuote x := by simpa using hc'
    rw [this]
    exact hq
mutual
theorem shown_so : ∀ d : PyData, d.canLay0 = true → SO d.shown
  | .none, _ => by rw [PyData.shown_none]; decide
  | .bool b, _ => by
    rw [PyData.shown_bool]
    cases b <;> decide
  | .int i, _ => fun c hc => by
    by_cases h : 57 < c
    · exact absurd hc (shown_int_free' (k := c) ⟨by omega, .inr h⟩ i)
    · omega
  | .str x, h => by
    rw [PyData.shown_str]
    exact repr_so (so_iff.mp (by simpa [PyData.canLay0] using h))
  | .list xs, h => by
    rw [PyData.shown_list]
    exact so_append (so_append (by decide) (so_join (by decide) (shownAll_so xs (by simpa [PyData.canLay0] using h)))) (by decide)
  | .tuple xs, h => by
    rw [PyData.shown_tuple]
    refine so_append (so_append (by decide) (so_join (by decide) (shownAll_so xs (by simpa [PyData.canLay0] using h)))) ?_
    split <;> decide
  | .dict _, h => by simp [PyData.canLay0] at h
theorem shownAll_so : ∀ xs : List PyData, PyData.canLayAll0 xs = true → ∀ t, t ∈ PyData.shownAll xs → SO t
  | [], _, t, ht => by rw [PyData.shownAll_nil] at ht; exact absurd ht (by simp)
  | x :: xs, h, t, ht => by
    have h' : x.canLay0 = true ∧ PyData.canLayAll0 xs = true := by simpa [PyData.canLayAll0] using h
    rw [PyData.shownAll_cons, List.mem_cons] at ht
    rcases ht with rfl | ht
    · exact shown_so x h'.1
    · exact shownAll_so xs h'.2 t ht
end
theorem shown_ok {d : PyData} (h : d.canLay0 = true) : PyData.strOk d.shown = true := so_iff.mpr (shown_so d h)
section
variable {X : Cx} {pins : List (Addr × Obj)} {σ : L2.St} {H : Hp} {s : Shared}
/-- repr of a truth -/
def rReprB : List V → Hp → VK → Prop := fun xs H Q => ∃ b, xs = [.bl b] ∧ Q (.str (PyData.bool b).shown) H
theorem call_reprB : CallR X (.builtin "repr") rReprB := by
  intro pins s σ H xs us Q I r h
  obtain ⟨b, rfl, q⟩ := h
  obtain ⟨u, rfl, rv⟩ := vals1 r
  obtain rfl : u = Value.bool b := rv
  rw [PyData.shown_bool] at q
  exact P.repr_of_bool ⟨.str _, H, I.kept fun _ _ e => e, ⟨_, rfl⟩, q⟩
end
end GR

namespace L10
open PySem PySem.Spec PyProof.Rows L2 GR
/-! ### data of tuples, texts and ints -/
mutual
/-- no lists in it -/
def flatD : PyData → Bool
  | .tuple ds => flatDs ds
  | .int _ => true
  | .str _ => true
  | .bool _ => true
  | .none => true
  | _ => false
def flatDs : List PyData → Bool
  | [] => true
  | d :: ds => flatD d && flatDs ds
end
theorem flatDs_of : ∀ {ds : List PyData}, (∀ d, d ∈ ds → flatD d = true) → flatDs ds = true
  | [], _ => by rw [flatDs]
  | d :: ds, h => by
    rw [flatDs, h d List.mem_cons_self, flatDs_of fun x hx => h x (List.mem_cons_of_mem _ hx)]
    rfl
/-- the tuples stay -/
def KeepT (H H' : Hp) : Prop := (∀ b xs, H b = some (.tup xs) → H' b = some (.tup xs)) ∧ ∀ b o xs, H b = some (.frz o (.tup xs)) → H' b = some (.frz o (.tup xs))
theorem KeepT.of {H H' : Hp} (s : Same H H') : KeepT H H' := ⟨fun b xs e => s b _ e, fun b o xs e => s b _ e⟩
theorem KeepT.refl {H : Hp} : KeepT H H := ⟨fun _ _ e => e, fun _ _ _ e => e⟩
theorem KeepT.trans {H H1 H2 : Hp} (a : KeepT H H1) (b : KeepT H1 H2) : KeepT H H2 := ⟨fun x xs e => b.1 x xs (a.1 x xs e), fun x o xs e => b.2 x o xs (a.2 x o xs e)⟩
theorem KeepT.seqt {K : PySem.W.Frag} {H H' : Hp} (s : KeepT H H') {a : Addr} {xs : List V} (h : SqT K H a xs) : SqT K H' a xs := by
  rcases h with (h | ⟨o, h⟩) | h
  · exact .inl (.inl (s.1 _ _ h))
  · exact .inl (.inr ⟨o, s.2 _ _ _ h⟩)
  · exact .inr h
theorem KeepT.upd {H : Hp} {a : Addr} {o : HO} (ha : ∀ xs, H a ≠ some (.tup xs)) (hb : ∀ u xs, H a ≠ some (.frz u (.tup xs))) : KeepT H (L2.upd H a o) := by
  refine ⟨fun b xs e => ?_, fun b u xs e => ?_⟩
  · have : b ≠ a := by
      rintro rfl
      exact ha xs e
    rw [upd_ne this]
    exact e
  · have : b ≠ a := by
      rintro rfl
      exact hb u xs e
    rw [upd_ne this]
    exact e
theorem KeepT.lst {H : Hp} {a : Addr} {ys : List V} {o : HO} (h : H a = some (.lst ys)) : KeepT H (L2.upd H a o) := KeepT.upd (fun xs e => by rw [h] at e; cases e) (fun u xs e => by rw [h] at e; cases e)
theorem KeepT.dk {H : Hp} {a : Addr} {ys : List (Key × V)} {o : HO} (h : H a = some (.dK ys)) : KeepT H (L2.upd H a o) := KeepT.upd (fun xs e => by rw [h] at e; cases e) (fun u xs e => by rw [h] at e; cases e)
theorem KeepT.non {H : Hp} {a : Addr} {o : HO} (h : H a = none) : KeepT H (L2.upd H a o) := KeepT.of (same_upd h)
theorem Keep.t {H H' : Hp} {d c : Addr} {N : Int} (k : Keep d c H H') (D : Deck H d c N) : KeepT H H' := by
  obtain ⟨cells, m, n, h1, h2, _⟩ := D
  exact ⟨fun b xs e => k _ _ (ne_of e h1 (fun z => by cases z)) (ne_of e h2 (fun z => by cases z)) e,
    fun b o xs e => k _ _ (ne_of e h1 (fun z => by cases z)) (ne_of e h2 (fun z => by cases z)) e⟩
mutual
theorem dp_keep {K : PySem.W.Frag} {H H' : Hp} (s : KeepT H H') : ∀ (d : PyData) (v : V), flatD d = true → Dp K H v d → Dp K H' v d
  | .none, _, _, h => by
    cases h
    exact .non
  | .bool b, _, _, h => by
    cases h
    exact .bl b
  | .int i, _, _, h => by
    cases h
    exact .int i
  | .str z, _, _, h => by
    cases h
    exact .str z
  | .tuple ds, _, hf, h => by
    cases h with
    | tup h1 h2 => exact .tup (s.seqt h1) (dp_keepAll s ds _ (by rw [flatD] at hf; exact hf) h2)
  | .list ds, _, hf, h => by simp only [flatD, Bool.false_eq_true] at hf
  | .dict ds, _, hf, h => by cases h
theorem dp_keepAll {K : PySem.W.Frag} {H H' : Hp} (s : KeepT H H') : ∀ (ds : List PyData) (vs : List V), flatDs ds = true → DpAll K H vs ds → DpAll K H' vs ds
  | [], _, _, h => by
    cases h
    exact .nil
  | d :: ds, _, hf, h => by
    rw [flatDs, Bool.and_eq_true] at hf
    cases h with
    | cons h1 h2 => exact .cons (dp_keep s d _ hf.1 h1) (dp_keepAll s ds _ hf.2 h2)
end
theorem dpAll_len {K : PySem.W.Frag} {H : Hp} : ∀ {vs : List V} {ds : List PyData}, DpAll K H vs ds → vs.length = ds.length
  | [], _, h => by
    cases h
    rfl
  | v :: vs, _, h => by
    cases h with
    | cons _ h2 => rw [List.length_cons, List.length_cons, dpAll_len h2]
theorem dpAll_append {K : PySem.W.Frag} {H : Hp} : ∀ {vs us : List V} {ds es : List PyData}, DpAll K H vs ds → DpAll K H us es → DpAll K H (vs ++ us) (ds ++ es)
  | [], _, _, _, h, g => by
    cases h
    exact g
  | v :: vs, _, _, _, h, g => by
    cases h with
    | cons h1 h2 => exact .cons h1 (dpAll_append h2 g)
theorem dpAll_at {K : PySem.W.Frag} {H : Hp} : ∀ {vs : List V} {ds : List PyData} {i : Nat} {v : V}, DpAll K H vs ds → vs[i]? = some v → ∃ d, ds[i]? = some d ∧ Dp K H v d
  | _, _, 0, v, .cons h _, e => by
    cases e
    exact ⟨_, rfl, h⟩
  | _, _, i + 1, v, .cons _ h, e => by
    rw [List.getElem?_cons_succ] at e ⊢
    exact dpAll_at h e
  | _, _, _, _, .nil, e => by simp at e
theorem flatDs_append : ∀ {xs ys : List PyData}, flatDs xs = true → flatDs ys = true → flatDs (xs ++ ys) = true
  | [], _, _, h => h
  | x :: xs, ys, h, g => by
    rw [flatDs, Bool.and_eq_true] at h
    rw [List.cons_append, flatDs, h.1, flatDs_append h.2 g]
    rfl
theorem new_tup {K : PySem.W.Frag} {H : Hp} {vs : List V} {ds : List PyData} {p : Addr} (hd : DpAll K H vs ds) (hf : flatDs ds = true) (np : H p = none) : Dp K (upd H p (.tup vs)) (.ref p) (.tuple ds) := .tup (.inl (.inl upd_same)) (dp_keepAll (KeepT.non np) _ _ hf hd)
/-! ### how long a text is -/
def sl (d : PyData) : Nat := d.shown.length
def sls : List PyData → Nat
  | [] => 0
  | d :: ds => sl d + 2 + sls ds
theorem sls_eq : ∀ ds : List PyData, ((PyData.shownAll ds).map (·.length)).sum + 2 * ds.length = sls ds
  | [] => by simp only [PyData.shownAll, List.map_nil, List.sum_nil, List.length_nil, sls]
  | d :: ds => by
    have := sls_eq ds
    simp only [PyData.shownAll, List.map_cons, List.sum_cons, List.length_cons, sls, sl]
    omega
theorem sls_append : ∀ (xs ys : List PyData), sls (xs ++ ys) = sls xs + sls ys
  | [], ys => by simp only [List.nil_append, sls, Nat.zero_add]
  | x :: xs, ys => by
    have := sls_append xs ys
    simp only [List.cons_append, sls]
    omega
theorem sls_le {b : PyData → Nat} : ∀ {ds : List PyData}, (∀ d, d ∈ ds → sl d + 2 ≤ b d) → sls ds ≤ (ds.map b).sum
  | [], _ => Nat.le_refl _
  | d :: ds, h => by
    have h1 := h d List.mem_cons_self
    have h2 := sls_le fun x hx => h x (List.mem_cons_of_mem _ hx)
    simp only [sls, List.map_cons, List.sum_cons]
    omega
theorem sl_tup (ds : List PyData) : sl (.tuple ds) ≤ sls ds + 3 := by
  have h1 := tupleText_len_le (PyData.shownAll ds)
  have h2 := sls_eq ds
  rw [PyData.shownAll_length] at h1
  unfold sl
  simp only [PyData.shown]
  omega
theorem sl_lst (ds : List PyData) : sl (.list ds) ≤ sls ds + 3 := by
  have h1 := listText_len_le (PyData.shownAll ds)
  have h2 := sls_eq ds
  rw [PyData.shownAll_length] at h1
  unfold sl
  simp only [PyData.shown]
  omega
theorem sl_name {z : Str} (h : Nm z) : sl (.str z) ≤ 82 := by
  obtain ⟨_, h2, h3, _⟩ := h
  have e := StrLaws.reprText_len z fun c hc => Nat.lt_of_le_of_lt (h3 c hc).2 (by decide)
  have e2 : z.length = z.cps.toList.length := by
    rw [Array.length_toList]
    rfl
  unfold sl
  rw [PyData.shown_str]
  omega
theorem int_nat {n : Int} (h1 : -(10 ^ 18) ≤ n) (h2 : n ≤ 10 ^ 18) : n.natAbs ≤ 1000000000000000000 := by omega
theorem int_log {n : Int} (h1 : -(10 ^ 18) ≤ n) (h2 : n ≤ 10 ^ 18) : n.natAbs.log2 < 60 := by
  by_cases e : n.natAbs = 0
  · rw [e]; decide
  · exact (Nat.log2_lt e).mpr (Nat.lt_of_le_of_lt (int_nat h1 h2) (by decide))
theorem sl_int {n : Int} (h1 : -(10 ^ 18) ≤ n) (h2 : n ≤ 10 ^ 18) : sl (.int n) ≤ 20 := by
  have e := int_text_length_le10 (k := 19) (by decide) (Nat.lt_of_le_of_lt (int_nat h1 h2) (by decide : 1000000000000000000 < 10 ^ 19))
  unfold sl
  rw [PyData.shown_int, PySem.ofString_length]
  exact e

theorem words_len : ∀ w, w ∈ (["int", "key", "var", "cell", "if", "+", "-", "*", "<", "=", "at", "count", "sum", "most", "first", "in", "let", "need", "tell", "put", "each"] : List Str) → sl (.str w) ≤ 7 := by
  have : ∀ w, w ∈ (["int", "key", "var", "cell", "if", "+", "-", "*", "<", "=", "at", "count", "sum", "most", "first", "in", "let", "need", "tell", "put", "each"] : List Str) → (reprText w).length ≤ 7 := by decide +kernel
  intro w hw
  unfold sl
  rw [PyData.shown_str]
  exact this w hw
/-! ### what is drawn -/
/-- data of tuples, texts and ints, of a bounded depth and length -/
structure Fine (k m : Nat) (x : PyData) : Prop where
  flat : flatD x = true
  shw : x.showable = true
  dep : x.depth ≤ k
  len : sl x + 2 ≤ m
theorem Fine.mono {k m k' m' : Nat} {x : PyData} (h : Fine k m x) (h1 : k ≤ k') (h2 : m ≤ m') : Fine k' m' x := ⟨h.flat, h.shw, Nat.le_trans h.dep h1, Nat.le_trans h.len h2⟩
theorem Fine.str {z : Str} (h : Nm z) : Fine 0 84 (.str z) := ⟨by simp only [flatD], by simp only [PyData.showable], by simp only [PyData.depth]; omega, by have := sl_name h; omega⟩
theorem Fine.word {w : Str} (h : w ∈ (["int", "key", "var", "cell", "if", "+", "-", "*", "<", "=", "at", "count", "sum", "most", "first", "in", "let", "need", "tell", "put", "each"] : List Str)) : Fine 0 9 (.str w) := ⟨by simp only [flatD], by simp only [PyData.showable], by simp only [PyData.depth]; omega, by have := words_len w h; omega⟩
theorem Fine.int {n : Int} (h1 : -(10 ^ 18) ≤ n) (h2 : n ≤ 10 ^ 18) : Fine 0 22 (.int n) := ⟨by simp only [flatD], by
  have := int_log h1 h2
  simp only [PyData.showable]
  exact decide_eq_true (by omega), by simp only [PyData.depth]; omega, by have := sl_int h1 h2; omega⟩
/-- parts of a tuple, with their lengths in all -/
inductive Fines (k : Nat) : Nat → List PyData → Prop
  | nil : Fines k 0 []
  | cons {m n : Nat} {x : PyData} {xs : List PyData} : Fine k m x → Fines k n xs → Fines k (m + n) (x :: xs)
theorem Fines.all {k n : Nat} {xs : List PyData} (h : Fines k n xs) : flatDs xs = true ∧ PyData.showableAll xs = true ∧ PyData.depthAll xs ≤ k ∧ sls xs ≤ n := by
  induction h with
  | nil => exact ⟨by simp only [flatDs], by simp only [PyData.showableAll], by simp only [PyData.depthAll]; omega, Nat.le_refl _⟩
  | cons h1 _ ih =>
    obtain ⟨a, b, c, d⟩ := ih
    refine ⟨by simp only [flatDs, h1.flat, a, Bool.and_self], by simp only [PyData.showableAll, h1.shw, b, Bool.and_self], ?_, ?_⟩
    · have := h1.dep
      simp only [PyData.depthAll]
      omega
    · have := h1.len
      simp only [sls]
      omega
theorem Fines.tup {k n : Nat} {xs : List PyData} (h : Fines k n xs) : Fine (k + 1) (n + 5) (.tuple xs) := by
  obtain ⟨a, b, c, d⟩ := h.all
  refine ⟨by simp only [flatD, a], by simp only [PyData.showable, b], by simp only [PyData.depth]; omega, ?_⟩
  have := sl_tup xs
  omega
theorem Fine.k0 {k m : Nat} {x : PyData} (h : Fine 0 m x) : Fine k m x := h.mono (Nat.zero_le _) (Nat.le_refl _)
end L10

namespace L10
open PySem PySem.Spec PyProof.Rows L2 GR
/-! ### expressions by their form (a let only where the sign + is told among the names): names of tables and columns among zs, variables among sc, a key only where b -/
abbrev ops5 : List Str := ["+", "-", "*", "<", "="]
abbrev aggk : List (Str × Nat × Nat) := [("count", 0, 0), ("sum", 1, 0), ("most", 1, 1), ("first", 0, 1)]
/-- the X of a plain aggregate -/
def rowX (t : Str) : PyData := .tuple [.str "cell", .str t, .tuple [.str "key"], .str "in"]
inductive Cx (zs sc : List Str) : Bool → Nat → PyData → Prop
  | int (b : Bool) (n : Nat) (i : Int) : -(10 ^ 18) ≤ i → i ≤ 10 ^ 18 → Cx zs sc b (n + 1) (.tuple [.str "int", .int i])
  | let_ (b : Bool) (n : Nat) (i : Int) : ("+" : Str) ∈ zs → 0 ≤ i → i ≤ 10000 → Cx zs sc b (n + 1) (.tuple [.str "let", .int i])
  | key (n : Nat) : Cx zs sc true (n + 1) (.tuple [.str "key"])
  | var (b : Bool) (n : Nat) (z : Str) : z ∈ sc → Cx zs sc b (n + 1) (.tuple [.str "var", .str z])
  | cell (b : Bool) (n : Nat) (t v : Str) (x : PyData) : (t ∈ zs ∧ t ≠ "#") → (v ∈ zs ∧ v ≠ "#") → Cx zs sc b n x → Cx zs sc b (n + 1) (.tuple [.str "cell", .str t, x, .str v])
  | op (b : Bool) (n : Nat) (o : Str) (x y : PyData) : o ∈ ops5 → Cx zs sc b n x → Cx zs sc b n y → Cx zs sc b (n + 1) (.tuple [.str o, x, y])
  | at_ (b : Bool) (n : Nat) (x y : PyData) : Cx zs sc b n x → Cx zs sc true n y → Cx zs sc b (n + 1) (.tuple [.str "at", x, y])
  | iff (b : Bool) (n : Nat) (x y z : PyData) : Cx zs sc b n x → Cx zs sc b n y → Cx zs sc b n z → Cx zs sc b (n + 1) (.tuple [.str "if", x, y, z])
  | agg (b : Bool) (n : Nat) (o t : Str) (p : PyData) (xs vs ds : List PyData) : ("#" : Str) ∈ zs → 2 ≤ n → (o, vs.length, ds.length) ∈ aggk → (t ∈ zs ∧ t ≠ "#") → xs.length ≤ 0 → (∀ x, x ∈ xs → Cx zs sc b 1 x) → Cx zs sc true n p → (∀ x, x ∈ vs → Cx zs sc true n x) → (∀ x, x ∈ ds → Cx zs sc b n x) →
      Cx zs sc b (n + 1) (.tuple (.str o :: .str t :: .tuple xs :: rowX t :: p :: (vs ++ ds)))
theorem Cx.mono {zs sc : List Str} : ∀ {b : Bool} {n m : Nat} {x : PyData}, Cx zs sc b n x → n ≤ m → Cx zs sc b m x := by
  intro b n m x h
  induction h generalizing m with
  | int b n i h1 h2 => intro hm; obtain ⟨k, rfl⟩ : ∃ k, m = k + 1 := ⟨m - 1, by omega⟩; exact .int b k i h1 h2
  | let_ b n i g9 h1 h2 => intro hm; obtain ⟨k, rfl⟩ : ∃ k, m = k + 1 := ⟨m - 1, by omega⟩; exact .let_ b k i g9 h1 h2
  | key n => intro hm; obtain ⟨k, rfl⟩ : ∃ k, m = k + 1 := ⟨m - 1, by omega⟩; exact .key k
  | var b n z h1 => intro hm; obtain ⟨k, rfl⟩ : ∃ k, m = k + 1 := ⟨m - 1, by omega⟩; exact .var b k z h1
  | cell b n t v x h1 h2 _ ih => intro hm; obtain ⟨k, rfl⟩ : ∃ k, m = k + 1 := ⟨m - 1, by omega⟩; exact .cell b k t v x h1 h2 (ih (by omega))
  | op b n o x y h1 _ _ ih1 ih2 => intro hm; obtain ⟨k, rfl⟩ : ∃ k, m = k + 1 := ⟨m - 1, by omega⟩; exact .op b k o x y h1 (ih1 (by omega)) (ih2 (by omega))
  | at_ b n x y _ _ ih1 ih2 => intro hm; obtain ⟨k, rfl⟩ : ∃ k, m = k + 1 := ⟨m - 1, by omega⟩; exact .at_ b k x y (ih1 (by omega)) (ih2 (by omega))
  | iff b n x y z _ _ _ ih1 ih2 ih3 => intro hm; obtain ⟨k, rfl⟩ : ∃ k, m = k + 1 := ⟨m - 1, by omega⟩; exact .iff b k x y z (ih1 (by omega)) (ih2 (by omega)) (ih3 (by omega))
  | agg b n o t p xs vs ds hh h0 h1 h2 h3 h4 _ _ _ _ ih2 ih3 ih4 => intro hm; obtain ⟨k, rfl⟩ : ∃ k, m = k + 1 := ⟨m - 1, by omega⟩; exact .agg b k o t p xs vs ds hh (by omega) h1 h2 h3 h4 (ih2 (by omega)) (fun x hx => ih3 x hx (by omega)) (fun x hx => ih4 x hx (by omega))
/-- a key may be allowed -/
theorem Cx.free {zs sc : List Str} {b : Bool} {n : Nat} {x : PyData} (h : Cx zs sc b n x) : Cx zs sc true n x := by
  induction h with
  | int b n i h1 h2 => exact .int true n i h1 h2
  | let_ b n i g9 h1 h2 => exact .let_ true n i g9 h1 h2
  | key n => exact .key n
  | var b n z h1 => exact .var true n z h1
  | cell b n t v x h1 h2 _ ih => exact .cell true n t v x h1 h2 ih
  | op b n o x y h1 _ _ ih1 ih2 => exact .op true n o x y h1 ih1 ih2
  | at_ b n x y _ h2 ih1 _ => exact .at_ true n x y ih1 h2
  | iff b n x y z _ _ _ ih1 ih2 ih3 => exact .iff true n x y z ih1 ih2 ih3
  | agg b n o t p xs vs ds hh h0 h1 h2 h3 _ h5 h6 _ ih1 _ _ ih4 => exact .agg true n o t p xs vs ds hh h0 h1 h2 h3 ih1 h5 h6 ih4
/-- more names -/
theorem Cx.wide {zs zs' sc sc' : List Str} (hz : ∀ z, z ∈ zs → z ∈ zs') (hs : ∀ z, z ∈ sc → z ∈ sc') {b : Bool} {n : Nat} {x : PyData} (h : Cx zs sc b n x) : Cx zs' sc' b n x := by
  induction h with
  | int b n i h1 h2 => exact .int b n i h1 h2
  | let_ b n i g9 h1 h2 => exact .let_ b n i (hz _ g9) h1 h2
  | key n => exact .key n
  | var b n z h1 => exact .var b n z (hs _ h1)
  | cell b n t v x h1 h2 _ ih => exact .cell b n t v x ⟨hz _ h1.1, h1.2⟩ ⟨hz _ h2.1, h2.2⟩ ih
  | op b n o x y h1 _ _ ih1 ih2 => exact .op b n o x y h1 ih1 ih2
  | at_ b n x y _ _ ih1 ih2 => exact .at_ b n x y ih1 ih2
  | iff b n x y z _ _ _ ih1 ih2 ih3 => exact .iff b n x y z ih1 ih2 ih3
  | agg b n o t p xs vs ds hh h0 h1 h2 h3 _ _ _ _ ih1 ih2 ih3 ih4 => exact .agg b n o t p xs vs ds (hz _ hh) h0 h1 ⟨hz _ h2.1, h2.2⟩ h3 ih1 ih2 ih3 ih4
end L10

/-! == of a tuple, of a list, whatever they hold, with the empty one -/
namespace ZE
open PySem PySem.Spec PyProof.Rows L2 GR
def rT0 (K : PySem.W.Frag) : R2 := fun x y H Q => ∃ (a b : Addr) (xs : List V), x = .ref a ∧ y = .ref b ∧ SqT K H a xs ∧ SqT K H b [] ∧ Q (.bl xs.isEmpty) H
def rL0 (K : PySem.W.Frag) : R2 := fun x y H Q => ∃ (a b : Addr) (xs : List V), x = .ref a ∧ y = .ref b ∧ SqL K H a xs ∧ SqL K H b [] ∧ Q (.bl xs.isEmpty) H
section
variable {X : Cx}
theorem empty_size {its : List Value} {xs : List V} (r : Vals xs its) : (its.toArray.size == 0) = xs.isEmpty := by
  cases r <;> rfl
theorem op_eqT0 (hu : X.A.units < cLine) : OpR X (compareOp .Eq) (rT0 X.K) := by
  intro pins s σ H x y v u Q I rx ry h
  obtain ⟨a, b, xs, rfl, rfl, ha, hb, q⟩ := h
  cases rx
  cases ry
  obtain ⟨its, rv, pt, hz⟩ := I.tuple ha
  obtain ⟨its2, rv2, pt2, hz2⟩ := I.tuple hb
  cases rv2
  refine SeqAt.eq_tupleAt (e := fun _ => true) pt pt2 hu (fun j h1 h2 => absurd h2 (Nat.not_lt_zero _)) ?_
  refine ⟨.bl xs.isEmpty, H, I, ?_, q⟩
  show Value.bool _ = Value.bool _
  rw [← empty_size rv]
  simp
theorem op_eqL0 (hu : X.A.units < cLine) : OpR X (compareOp .Eq) (rL0 X.K) := by
  intro pins s σ H x y v u Q I rx ry h
  obtain ⟨a, b, xs, rfl, rfl, ha, hb, q⟩ := h
  cases rx
  cases ry
  obtain ⟨its, rv, pl, hz⟩ := I.list ha
  obtain ⟨its2, rv2, pl2, hz2⟩ := I.list hb
  cases rv2
  cases rv with
  | nil => exact SeqAt.eq_listAt (e := fun _ => true) pl.isList pl2.isList rfl hu (fun j h1 h2 => absurd h2 (Nat.not_lt_zero _)) ⟨.bl true, H, I, rfl, q⟩
  | cons r t => exact SeqAt.eq_list_lengthsAt pl.isList pl2.isList (by simp) hu ⟨.bl false, H, I, rfl, q⟩
end
end ZE

/-! != of a list, whatever it holds, with the empty one -/
namespace ZE
open PySem PySem.Spec PyProof.Rows L2 GR
def rNL0 (K : PySem.W.Frag) : R2 := fun x y H Q => ∃ (a b : Addr) (xs : List V), x = .ref a ∧ y = .ref b ∧ SqL K H a xs ∧ SqL K H b [] ∧ Q (.bl (!xs.isEmpty)) H
section
variable {X : Cx}
theorem op_neL0 (hu : X.A.units < cLine) : OpR X (compareOp .NotEq) (rNL0 X.K) := by
  intro pins s σ H x y v u Q I rx ry h
  obtain ⟨a, b, xs, rfl, rfl, ha, hb, q⟩ := h
  cases rx
  cases ry
  obtain ⟨its, rv, pl, hz⟩ := I.list ha
  obtain ⟨its2, rv2, pl2, hz2⟩ := I.list hb
  cases rv2
  cases rv with
  | nil => exact SeqAt.RcNeAt.lists (e := fun _ => true) pl.isList pl2.isList rfl hu (fun j h1 h2 => absurd h2 (Nat.not_lt_zero _)) _ _ _ _ ⟨.bl false, H, I, rfl, q⟩
  | cons r t => exact SeqAt.RcNeAt.lists_lengths pl.isList pl2.isList (by simp) hu _ _ _ _ ⟨.bl true, H, I, rfl, q⟩
end
end ZE

namespace L10
open PySem PySem.Spec PyProof.Rows L2 GR
/-- how many draws, how long -/
def dx : Nat → Int
  | 0 => 10
  | n + 1 => 30 + 6 * dx n
theorem dx_pos : ∀ n, 10 ≤ dx n
  | 0 => by simp only [dx]; omega
  | n + 1 => by
    have := dx_pos n
    simp only [dx]
    omega
def em : Nat → Nat
  | 0 => 100
  | n + 1 => 3 * em n + 240
theorem em_pos : ∀ n, 100 ≤ em n
  | 0 => by simp only [em]; omega
  | n + 1 => by
    have := em_pos n
    simp only [em]
    omega
theorem small1000 {n : Nat} (h : n ≤ 1000) : n < sizeLine := by
  have : sizeLine = 16777216 := by decide
  omega
theorem h1000 {n : Nat} (h : n ≤ 1000) : n ≤ sizeLine := small_le h
theorem noSl_str {z : Str} {pos : Pos} {k} : NoSl (.Constant (.str z) k pos) := fun _ _ => rfl
theorem noSl_name {x : Str} {pos : Pos} : NoSl (.Name x pos) := fun _ _ => rfl
theorem iteA {c : Bool} {A B : Prop} (h : A) (h2 : ¬ c = true → B) : if c = true then A else B := by
  split
  · exact h
  · rename_i e
    exact h2 e
def kv4 (a b c e : Addr) : List (Key × V) := [(.inr "count", .ref a), (.inr "sum", .ref b), (.inr "most", .ref c), (.inr "first", .ref e)]
theorem kv4_1 (a b c e : Addr) : valV (mergeK [] (kv4 a b c e)) (.inr "count") = some (.ref a) := valV_pos rfl
theorem kv4_2 (a b c e : Addr) : valV (mergeK [] (kv4 a b c e)) (.inr "sum") = some (.ref b) := (valV_neg (show ¬ ((.inr "count" : Key) = .inr "sum") by decide)).trans (valV_pos rfl)
theorem kv4_3 (a b c e : Addr) : valV (mergeK [] (kv4 a b c e)) (.inr "most") = some (.ref c) := (valV_neg (show ¬ ((.inr "count" : Key) = .inr "most") by decide)).trans ((valV_neg (show ¬ ((.inr "sum" : Key) = .inr "most") by decide)).trans (valV_pos rfl))
theorem kv4_4 (a b c e : Addr) : valV (mergeK [] (kv4 a b c e)) (.inr "first") = some (.ref e) := (valV_neg (show ¬ ((.inr "count" : Key) = .inr "first") by decide)).trans ((valV_neg (show ¬ ((.inr "sum" : Key) = .inr "first") by decide)).trans ((valV_neg (show ¬ ((.inr "most" : Key) = .inr "first") by decide)).trans (valV_pos rfl)))
theorem Fines.append {k m n : Nat} {xs ys : List PyData} (h : Fines k m xs) (g : Fines k n ys) : Fines k (m + n) (xs ++ ys) := by
  induction h with
  | nil => rw [Nat.zero_add]; exact g
  | @cons a b x xs h1 _ ih =>
    rw [Nat.add_assoc]
    exact .cons h1 ih
/-- the names of tables and columns -/
abbrev nms (ts cs : List Str) : List Str := ("in" : Str) :: (ts ++ cs)
/-- a sign where aggregates may be -/
def mark (l : Int) : List Str := if l < 2 then ["#"] else []
abbrev nmx (l : Int) (ts cs : List Str) : List Str := ("in" : Str) :: (ts ++ (cs ++ mark l))
theorem mark_max {l : Int} (h0 : 0 ≤ l) (h2 : l ≤ 2) : mark (if l > 1 then l else 1) = mark l := by
  unfold mark
  split <;> split <;> simp_all <;> omega
theorem mark_one {l : Int} (h : ¬ l = 2) (h2 : l ≤ 2) : mark l = mark 1 := by
  unfold mark
  rw [if_pos (by omega), if_pos (by decide)]
theorem nmx_max {l : Int} {ts cs : List Str} (h0 : 0 ≤ l) (h2 : l ≤ 2) : nmx (if l > 1 then l else 1) ts cs = nmx l ts cs := by
  show ("in" : Str) :: (ts ++ (cs ++ mark (if l > 1 then l else 1))) = ("in" : Str) :: (ts ++ (cs ++ mark l))
  rw [mark_max h0 h2]
theorem nmx_one {l : Int} {ts cs : List Str} (h : ¬ l = 2) (h2 : l ≤ 2) : nmx 1 ts cs = nmx l ts cs := by
  show ("in" : Str) :: (ts ++ (cs ++ mark 1)) = ("in" : Str) :: (ts ++ (cs ++ mark l))
  rw [mark_one h h2]
theorem mark_in : ("#" : Str) ∈ mark 1 := by decide
/-- one that may be picked -/
def GV (K : PySem.W.Frag) (zs sc : List Str) (b : Bool) (H : Hp) (v : V) : Prop := ∃ x, Dp K H v x ∧ Fine 3 100 x ∧ Cx zs sc b 2 x
theorem GV.keep {K : PySem.W.Frag} {zs sc : List Str} {b : Bool} {H H' : Hp} {v : V} (h : GV K zs sc b H v) (k : KeepT H H') : GV K zs sc b H' v := by
  obtain ⟨x, h1, h2, h3⟩ := h
  exact ⟨x, dp_keep k _ _ h2.flat h1, h2, h3⟩
theorem nm_hash {z : Str} (h : Nm z) : z ≠ "#" := fun e => by
  have := (h.2.2.1 35 (by rw [e]; decide)).1
  omega
section
variable {P : Program} {w : World} {K : PySem.W.Frag} {mg : Str → Option Value} {base : Heap}
abbrev s_law_integer : Stmt := topS 74
abbrev s_law_cell : Stmt := topS 75
abbrev s_law_leaf : Stmt := topS 76
abbrev s_law_aggregate : Stmt := topS 77
abbrev s_law_expression : Stmt := topS 78
abbrev ps_in : List Str := ["_law_deck_here", "_law_world_here"]
abbrev N_in : List Str := ["_law_deck_here", "_law_world_here", "_law_way"]
theorem sc_law_integer : FnScope N_in ps_in (defScope s_law_integer) := ⟨rfl, rfl, rfl, by decide +kernel, rfl, by decide +kernel, by decide +kernel⟩
abbrev ps_ce : List Str := ["_law_table", "_law_key", "_law_column"]
theorem sc_law_cell : FnScope ps_ce ps_ce (defScope s_law_cell) := ⟨rfl, rfl, rfl, by decide +kernel, rfl, by decide +kernel, by decide +kernel⟩
abbrev ps_lf : List Str := ["_law_deck_here", "_law_world_here", "_law_scope", "_law_loose"]
abbrev N_lf : List Str := ["_law_deck_here", "_law_world_here", "_law_scope", "_law_loose", "_law_way"]
theorem sc_law_leaf : FnScope N_lf ps_lf (defScope s_law_leaf) := ⟨rfl, rfl, rfl, by decide +kernel, rfl, by decide +kernel, by decide +kernel⟩
abbrev ps_ag : List Str := ["_law_deck_here", "_law_world_here", "_law_deep", "_law_scope"]
abbrev N_ag : List Str := ["_law_deck_here", "_law_world_here", "_law_deep", "_law_scope", "_law_table", "_law_word", "_law_some"]
theorem sc_law_aggregate : FnScope N_ag ps_ag (defScope s_law_aggregate) := ⟨rfl, rfl, rfl, by decide +kernel, rfl, by decide +kernel, by decide +kernel⟩
abbrev ps_ex : List Str := ["_law_deck_here", "_law_world_here", "_law_deep", "_law_scope", "_law_loose"]
abbrev N_ex : List Str := ["_law_deck_here", "_law_world_here", "_law_deep", "_law_scope", "_law_loose", "_law_way", "_law_one", "_law_near", "_law_other"]
theorem sc_law_expression : FnScope N_ex ps_ex (defScope s_law_expression) := ⟨rfl, rfl, rfl, by decide +kernel, rfl, by decide +kernel, by decide +kernel⟩
/-- the list of variables that may be used -/
structure Scp (H : Hp) (d c sc : Addr) (scope : List Str) : Prop where
  at' : H sc = some (.lst (scope.map V.str))
  n0 : sc ≠ d ∧ sc ≠ c
  nm : ∀ z, z ∈ scope → Nm z
  len : scope.length ≤ 10
theorem Scp.keep {H H' : Hp} {d c sc : Addr} {scope : List Str} (S : Scp H d c sc scope) (k : Keep d c H H') : Scp H' d c sc scope := ⟨k _ _ S.n0.1 S.n0.2 S.at', S.n0, S.nm, S.len⟩
/-- tuples of a word and one more -/
theorem tup2 {k m : Nat} {w : Str} {x : PyData} (hw : w ∈ (["int", "key", "var", "cell", "if", "+", "-", "*", "<", "=", "at", "count", "sum", "most", "first", "in", "let", "need", "tell", "put", "each"] : List Str)) (hx : Fine k m x) : Fine (k + 1) (m + 14) (.tuple [.str w, x]) :=
  ((Fines.cons (Fine.word hw).k0 (.cons hx .nil)).tup).mono (Nat.le_refl _) (by omega)
theorem fine_key : Fine 1 14 (.tuple [.str "key"]) := ((Fines.cons (Fine.word (w := "key") (by decide)).k0 .nil).tup).mono (Nat.le_refl _) (by decide)
/-- where a world is -/
def AtW (H : Hp) (d c u : Addr) (ts cs ns : List Str) : Prop := ∃ tl cl nl kl ks, Wd H d c u tl cl nl kl ts cs ns ks
theorem AtW.keep {H H' : Hp} {d c u : Addr} {ts cs ns : List Str} (W : AtW H d c u ts cs ns) (k : Keep d c H H') : AtW H' d c u ts cs ns := by
  obtain ⟨tl, cl, nl, kl, ks, h⟩ := W
  exact ⟨tl, cl, nl, kl, ks, h.keep k⟩
def sp_int : Sp := fun vs H Q _ => ∃ (d c u : Addr) (N : Int) (ts cs ns : List Str), vs = [.ref d, .ref u] ∧ Deck H d c N ∧ N < 2 ^ 55 ∧ AtW H d c u ts cs ns ∧
  ∀ H' i, Keep d c H H' → Deck H' d c (N + 3) → -(10 ^ 18) ≤ i → i ≤ 10 ^ 18 → Q (.int i) H'
theorem ok_integer {f f_law_draw f_law_pick : Addr} {fd fd_law_draw fd_law_pick : FuncData} {k : Nat} (F : Fun K "_law_integer" "_law_integer" s_law_integer f fd) (G_law_draw : FnOk P w K mg base CX0 k f_law_draw fd_law_draw ["_law_deck_here", "_law_most"] sp_draw)
    (g_law_draw : mg "_law_draw" = some (.ref f_law_draw)) (K_law_draw : PySem.W.keepIn K (.ref f_law_draw) = true) (b_law_draw : Binds K fd_law_draw ["_law_deck_here", "_law_most"] [])
    (G_law_pick : FnOk P w K mg base CX0 k f_law_pick fd_law_pick ["_law_deck_here", "_law_some"] (sp_pick K))
    (g_law_pick : mg "_law_pick" = some (.ref f_law_pick)) (K_law_pick : PySem.W.keepIn K (.ref f_law_pick) = true) (b_law_pick : Binds K fd_law_pick ["_law_deck_here", "_law_some"] []) : FnOk P w K mg base CX0 (k + 1) f fd ps_in sp_int := by
  have nd := sc_law_integer.nd
  refine F.ok sc_law_integer (fun vs H Q E h => ?_) (fun cdv A outer s H vs Q E hr h => ?_)
  · obtain ⟨d, c, u, N, ts, cs, ns, rfl, _⟩ := h
    rfl
  obtain ⟨d, c, u, N, ts, cs, ns, rfl, D, hN, W, q⟩ := h
  have hu1 : (A.deeper (envOfC "_law_integer" (defScope s_law_integer) s.heap.objs.size f cdv)).units + 1 < cLine := by
    have := hr.units
    omega
  refine ⟨_, (pss_cons (ps_set (i := 2) nd rfl (.inl rfl) (pe_call G_law_draw hr (by rfl) g_law_draw K_law_draw b_law_draw .nil pass0 (pa_cons (pv 0) (pa_cons pe_int pa_nil))))
      (pss_cons (ps_if (pt_cmpR op_lt (pv 2) pe_int (nomark _))
      (pss_one (ps_ret (pe_call G_law_pick hr (by rfl) g_law_pick K_law_pick b_law_pick .nil pass0 (pa_cons (pv 0) (pa_cons (pe_dget hu1 (pv 1) pe_str noSl_str) pa_nil)))))
      pss_nil)
      (pss_cons (ps_if (pt_cmpR op_eq (pv 2) pe_int (nomark _))
      (pss_one (ps_ret (pe_call G_law_pick hr (by rfl) g_law_pick K_law_pick b_law_pick .nil pass0 (pa_cons (pv 0) (pa_cons (pe_lst (pa_cons (pe_op op_pow pe_int pe_int) (pa_cons (pe_op op_sub pe_int (pe_op op_pow pe_int pe_int)) (pa_cons (pe_op op_pow pe_int pe_int) (pa_cons (pe_op op_sub (pe_op op_pow pe_int pe_int) pe_int) pa_nil))))) pa_nil)))))
      pss_nil)
      (pss_one (ps_ret (pe_op op_sub (pe_call G_law_draw hr (by rfl) g_law_draw K_law_draw b_law_draw .nil pass0 (pa_cons (pv 0) (pa_cons pe_int pa_nil))) pe_int)))))), ?_⟩
  have LIM : (10 : Int) ^ 18 = 1000000000000000000 := by decide
  refine ⟨.ref d, rfl, d, c, N, 8, rfl, D, by omega, by decide, by decide, fun H1 way k1 D1 w0 w1 => ?_⟩
  refine ⟨.int way, rfl, _, _, rfl, rfl, _, rfl, ite2 (fun e => ?_) (fun e => ?_)⟩
  · obtain ⟨tl, cl, nl, kl, ks, W1⟩ := W.keep k1
    refine ⟨.ref d, rfl, .ref u, rfl, u, .ref kl, rfl, ?_, .inl ⟨d, c, kl, _, _, rfl, D1, by omega, .inl (.inl W1.hk), ?_, ?_, W1.k0.1, W1.k0.2, fun H2 v k2 D2 hv => ?_⟩⟩
    · rw [← wD_k tl cl nl kl]
      exact DGet.k (k := .inr "keys") W1.dct
    · intro e
      have := congrArg List.length e
      rw [List.length_map, W1.lk] at this
      cases this
    · rw [List.length_map, W1.lk]
      decide
    obtain ⟨i, hi, rfl⟩ := List.mem_map.mp hv
    have := W1.ak i hi
    exact q _ _ (k1.trans k2) (D2.mono (by omega)) (by omega) (by omega)
  · refine ⟨.int way, rfl, rfl, _, rfl, ite2 (fun e => ?_) (fun e => ?_)⟩
    · refine ⟨.ref d, rfl, _, _, rfl, rfl, ⟨by decide, by decide⟩, ?_⟩
      refine ⟨_, _, rfl, rfl, ⟨by decide, by decide⟩, _, _, rfl, rfl, ?_⟩
      refine ⟨_, _, rfl, rfl, ⟨by decide, by decide⟩, ?_⟩
      refine ⟨_, _, rfl, rfl, ⟨by decide, by decide⟩, _, _, rfl, rfl, h1000 (show 4 ≤ 1000 by decide), fun l nl => ?_⟩
      have sl := same_upd (o := .lst [.int ((10 : Int) ^ (18 : Int).toNat), .int (0 - (10 : Int) ^ (18 : Int).toNat), .int ((10 : Int) ^ (9 : Int).toNat), .int ((10 : Int) ^ (18 : Int).toNat - 1)]) nl
      have hln := D1.new nl
      refine .inl ⟨d, c, l, _, [.int ((10 : Int) ^ (18 : Int).toNat), .int (0 - (10 : Int) ^ (18 : Int).toNat), .int ((10 : Int) ^ (9 : Int).toNat), .int ((10 : Int) ^ (18 : Int).toNat - 1)], rfl, D1.same sl, by omega, .inl (.inl upd_same), List.cons_ne_nil _ _, (show 4 ≤ 1000 by decide), hln.1, hln.2, fun H2 v k2 D2 hv => ?_⟩
      obtain ⟨i, rfl, h1, h2⟩ : ∃ i : Int, v = .int i ∧ -(10 ^ 18) ≤ i ∧ i ≤ 10 ^ 18 := by
        simp only [List.mem_cons, List.not_mem_nil, or_false] at hv
        rcases hv with rfl | rfl | rfl | rfl
        · exact ⟨_, rfl, by decide, by decide⟩
        · exact ⟨_, rfl, by decide, by decide⟩
        · exact ⟨_, rfl, by decide, by decide⟩
        · exact ⟨_, rfl, by decide, by decide⟩
      exact q _ _ ((k1.trans (Keep.of sl)).trans k2) (D2.mono (by omega)) h1 h2
    · refine ⟨.ref d, rfl, d, c, _, 12, rfl, D1, by omega, by decide, by decide, fun H2 r k2 D2 r0 r1 => ⟨_, _, rfl, rfl, ?_⟩⟩
      exact q _ _ (k1.trans k2) (D2.mono (by omega)) (by omega) (by omega)
/-- a tuple of what is given -/
def sp_cell : Sp := fun vs H Q _ => ∃ a b c, vs = [a, b, c] ∧ ∀ p, H p = none → Q (.ref p) (upd H p (.tup [.str "cell", a, b, c]))
theorem ok_cell {f : Addr} {fd : FuncData} {k : Nat} (F : Fun K "_law_cell" "_law_cell" s_law_cell f fd) : FnOk P w K mg base CX0 (k + 1) f fd ps_ce sp_cell := by
  have nd := sc_law_cell.nd
  refine F.ok sc_law_cell (fun vs H Q E h => ?_) (fun cdv A outer s H vs Q E hr h => ?_)
  · obtain ⟨a, b, c, rfl, _⟩ := h
    rfl
  obtain ⟨a, b, c, rfl, q⟩ := h
  refine ⟨_, (pss_one (ps_ret (pe_tup (pa_cons pe_str (pa_cons (pv 0) (pa_cons (pv 1) (pa_cons (pv 2) pa_nil))))))), ?_⟩
  exact ⟨a, rfl, b, rfl, c, rfl, h1000 (show 4 ≤ 1000 by decide), fun p np => q p np⟩
def sp_leaf (K : PySem.W.Frag) : Sp := fun vs H Q _ => ∃ (d c u sc : Addr) (N : Int) (b : Bool) (ts cs ns scope : List Str), vs = [.ref d, .ref u, .ref sc, .bl b] ∧ Deck H d c N ∧ N < 2 ^ 54 ∧ AtW H d c u ts cs ns ∧ Scp H d c sc scope ∧
  ∀ H' v x, Keep d c H H' → Deck H' d c (N + 5) → Fine 3 100 x → (∀ zs, Cx zs scope b 1 x) → Dp K H' v x → Q v H'
theorem ok_leaf {f f_law_draw f_law_pick f_law_integer : Addr} {fd fd_law_draw fd_law_pick fd_law_integer : FuncData} {k : Nat} (F : Fun K "_law_leaf" "_law_leaf" s_law_leaf f fd) (G_law_draw : FnOk P w K mg base CX0 k f_law_draw fd_law_draw ["_law_deck_here", "_law_most"] sp_draw)
    (g_law_draw : mg "_law_draw" = some (.ref f_law_draw)) (K_law_draw : PySem.W.keepIn K (.ref f_law_draw) = true) (b_law_draw : Binds K fd_law_draw ["_law_deck_here", "_law_most"] [])
    (G_law_pick : FnOk P w K mg base CX0 k f_law_pick fd_law_pick ["_law_deck_here", "_law_some"] (sp_pick K))
    (g_law_pick : mg "_law_pick" = some (.ref f_law_pick)) (K_law_pick : PySem.W.keepIn K (.ref f_law_pick) = true) (b_law_pick : Binds K fd_law_pick ["_law_deck_here", "_law_some"] [])
    (G_law_integer : FnOk P w K mg base CX0 k f_law_integer fd_law_integer ps_in sp_int)
    (g_law_integer : mg "_law_integer" = some (.ref f_law_integer)) (K_law_integer : PySem.W.keepIn K (.ref f_law_integer) = true) (b_law_integer : Binds K fd_law_integer ps_in []) : FnOk P w K mg base CX0 (k + 1) f fd ps_lf (sp_leaf K) := by
  have nd := sc_law_leaf.nd
  refine F.ok sc_law_leaf (fun vs H Q E h => ?_) (fun cdv A outer s H vs Q E hr h => ?_)
  · obtain ⟨d, c, u, sc, N, b, ts, cs, ns, scope, rfl, _⟩ := h
    rfl
  obtain ⟨d, c, u, sc, N, b, ts, cs, ns, scope, rfl, D, hN, W, S, q⟩ := h
  have hu1 : (A.deeper (envOfC "_law_leaf" (defScope s_law_leaf) s.heap.objs.size f cdv)).units + 1 < cLine := by
    have := hr.units
    omega
  have hu : (A.deeper (envOfC "_law_leaf" (defScope s_law_leaf) s.heap.objs.size f cdv)).units < cLine := by omega
  refine ⟨_, (pss_cons (ps_set (i := 4) nd rfl (.inl rfl) (pe_call G_law_draw hr (by rfl) g_law_draw K_law_draw b_law_draw .nil pass0 (pa_cons (pv 0) (pa_cons pe_int pa_nil))))
      (Evl.pss_cut (ps_if (PW.pt (pw_and (pt_cmpR op_lt (pv 4) pe_int (nomark _)) (pw_and1 (pt_cmpR (ZE.op_neL0 hu) (pv 2) (pe_lst pa_nil) (nomark _)))))
      (pss_one (ps_ret (pe_tup (pa_cons pe_str (pa_cons (pe_call G_law_pick hr (by rfl) g_law_pick K_law_pick b_law_pick .nil pass0 (pa_cons (pv 0) (pa_cons (pv 2) pa_nil))) pa_nil)))))
      pss_nil)
      (Evl.pss_cut (ps_if (PW.pt (pw_and (pt_cmpR op_eq (pv 4) pe_int (nomark _)) (pw_and1 (pt_val (pv 3)))))
      (pss_one (ps_ret (pe_tup (pa_cons pe_str pa_nil))))
      pss_nil)
      (pss_one (ps_ret (pe_tup (pa_cons pe_str (pa_cons (pe_call G_law_integer hr (by rfl) g_law_integer K_law_integer b_law_integer .nil pass0 (pa_cons (pv 0) (pa_cons (pv 1) pa_nil))) pa_nil)))))))), ?_⟩
  have LIM : (10 : Int) ^ 18 = 1000000000000000000 := by decide
  refine ⟨.ref d, rfl, d, c, N, 5, rfl, D, by omega, by decide, by decide, fun H1 way k1 D1 w0 w1 => ?_⟩
  refine ⟨fun σ' H' => σ' = [some (.ref d), some (.ref u), some (.ref sc), some (.bl b), some (.int way)] ∧ Keep d c H H' ∧ Deck H' d c (N + 1), ?_, ?_⟩
  · refine ⟨.int way, rfl, _, _, rfl, rfl, _, rfl, ite2 (fun e => ?_) (fun e => ⟨rfl, k1, D1⟩)⟩
    refine ⟨.ref sc, rfl, Nat.zero_le _, fun l nl => ?_⟩
    have sl := same_upd (o := .lst []) nl
    have S2 := (S.keep k1).keep (Keep.of sl)
    have D2 := D1.same sl
    have k2 := k1.trans (Keep.of sl)
    have hl : upd H1 l (.lst []) l = some (.lst []) := upd_same
    revert hl S2 D2 k2
    clear sl
    generalize upd H1 l (.lst []) = H2
    intro S2 D2 k2 hl
    refine ⟨sc, l, _, rfl, rfl, .inl (.inl S2.at'), .inl (.inl hl), _, rfl, ite2 (fun e => ?_) (fun e => ⟨rfl, k2, D2⟩)⟩
    have hne : scope.map V.str ≠ [] := fun h => by
      rw [h] at e
      cases e
    have hsl := S.len
    refine ⟨.ref d, rfl, .ref sc, rfl, .inl ⟨d, c, sc, _, _, rfl, D2, by omega, .inl (.inl S2.at'), hne, by rw [List.length_map]; omega, S2.n0.1, S2.n0.2, fun H3 v k3 D3 hv => ⟨h1000 (show 2 ≤ 1000 by decide), fun p np => ?_⟩⟩⟩
    obtain ⟨z, hz, rfl⟩ := List.mem_map.mp hv
    have sp := same_upd (o := .tup [.str "var", .str z]) np
    exact q _ _ _ ((k2.trans k3).trans (Keep.of sp)) ((D3.same sp).mono (by omega)) ((tup2 (by decide) (Fine.str (S.nm z hz))).mono (by decide) (by decide)) (fun zs => .var _ _ _ hz) (new_tup (.cons (.str "var") (.cons (.str z) .nil)) rfl np)
  clear k1 D1 w0 w1
  rintro σ' H1 ⟨rfl, k1, D1⟩
  refine ⟨fun σ' H' => σ' = [some (.ref d), some (.ref u), some (.ref sc), some (.bl b), some (.int way)] ∧ Keep d c H H' ∧ Deck H' d c (N + 1), ?_, ?_⟩
  · refine ⟨.int way, rfl, rfl, _, rfl, ite2 (fun e => ?_) (fun e => ⟨rfl, k1, D1⟩)⟩
    refine ⟨.bl b, rfl, b, rfl, ite2 (fun e => ?_) (fun e => ⟨rfl, k1, D1⟩)⟩
    refine ⟨h1000 (show 1 ≤ 1000 by decide), fun p np => ?_⟩
    have sp := same_upd (o := .tup [.str "key"]) np
    subst e
    exact q _ _ _ (k1.trans (Keep.of sp)) ((D1.same sp).mono (by omega)) (fine_key.mono (by decide) (by decide)) (fun zs => .key 0) (new_tup (.cons (.str "key") .nil) rfl np)
  clear k1 D1
  rintro σ' H1 ⟨rfl, k1, D1⟩
  refine ⟨.ref d, rfl, .ref u, rfl, d, c, u, _, ts, cs, ns, rfl, D1, by omega, W.keep k1, fun H2 i k2 D2 h1 h2 => ⟨h1000 (show 2 ≤ 1000 by decide), fun p np => ?_⟩⟩
  have sp := same_upd (o := .tup [.str "int", .int i]) np
  exact q _ _ _ ((k1.trans k2).trans (Keep.of sp)) ((D2.same sp).mono (by omega)) ((tup2 (by decide) (Fine.int h1 h2)).mono (by decide) (by decide)) (fun zs => .int _ _ _ h1 h2) (new_tup (.cons (.str "int") (.cons (.int i) .nil)) rfl np)
end
end L10

namespace L10
open PySem PySem.Spec PyProof.Rows L2 GR
abbrev wdsA : List Str := ["int", "key", "var", "cell", "if", "+", "-", "*", "<", "=", "at", "count", "sum", "most", "first", "in", "let", "need", "tell", "put", "each"]
section
variable {P : Program} {w : World} {K : PySem.W.Frag} {mg : Str → Option Value} {base : Heap}
def sp_expr (K : PySem.W.Frag) (n : Nat) : Sp := fun vs H Q _ => ∃ (d c u sc : Addr) (N deep loose : Int) (ts cs ns scope : List Str), vs = [.ref d, .ref u, .int deep, .ref sc, .int loose] ∧ Deck H d c N ∧ N + dx n < 2 ^ 54 ∧ AtW H d c u ts cs ns ∧ Scp H d c sc scope ∧
  deep ≤ (n : Int) ∧ 0 ≤ loose ∧ loose ≤ 2 ∧ ∀ H' v x, Keep d c H H' → Deck H' d c (N + dx n) → Fine (n + 3) (em n) x → Cx (nmx loose ts cs) scope (decide (0 < loose)) (n + 2) x → Dp K H' v x → Q v H'
def sp_agg (K : PySem.W.Frag) (n : Nat) : Sp := fun vs H Q _ => ∃ (d c u sc : Addr) (N deep : Int) (ts cs ns scope : List Str), vs = [.ref d, .ref u, .int deep, .ref sc] ∧ Deck H d c N ∧ N + 2 + 3 * dx n < 2 ^ 54 ∧ AtW H d c u ts cs ns ∧ Scp H d c sc scope ∧
  deep - 1 ≤ (n : Int) ∧ ∀ H' v x, Keep d c H H' → Deck H' d c (N + 2 + 3 * dx n) → Fine (n + 4) (em (n + 1)) x → Cx (nmx 1 ts cs) scope false (n + 3) x → Dp K H' v x → Q v H'
/-- an aggregate under way: its word, its table, what it holds so far -/
structure Ag (K : PySem.W.Frag) (H : Hp) (n : Nat) (zs sc : List Str) (o t : Str) (v : V) (va da : List PyData) (x5 : PyData) : Prop where
  tup : ∃ (z3 z0 z2 : Addr) (v5 : V) (us : List V), v = .ref z3 ∧ H z3 = some (.tup ([.str o, .str t, .ref z0, .ref z2, v5] ++ us)) ∧ DpAll K H ([.str o, .str t, .ref z0, .ref z2, v5] ++ us) (([.str o, .str t, .tuple [], rowX t, x5] : List PyData) ++ (va ++ da)) ∧ us.length = va.length + da.length
  fin : ∃ L, L ≤ em n * (va.length + da.length) ∧ Fines (n + 3) L (va ++ da)
  f5 : Fine (n + 3) (em n) x5
  c5 : Cx zs sc true (n + 2) x5
  cv : ∀ x, x ∈ va → Cx zs sc true (n + 2) x
  cd : ∀ x, x ∈ da → Cx zs sc false (n + 2) x
  le : va.length + da.length ≤ 2
theorem rowX_fine {t : Str} (h : Nm t) : Fine 2 121 (rowX t) := ((Fines.cons (Fine.word (w := "cell") (by decide)).k0 (.cons (Fine.str h).k0 (.cons fine_key (.cons (Fine.word (w := "in") (by decide)).k0 .nil)))).tup).mono (Nat.le_refl _) (by decide)
theorem Ag.fines {K : PySem.W.Frag} {H : Hp} {n : Nat} {zs sc : List Str} {o t : Str} {v : V} {va da : List PyData} {x5 : PyData} (A : Ag K H n zs sc o t v va da x5) (ho : o ∈ wdsA) (ht : Nm t) :
    ∃ L, L ≤ 219 + em n + em n * (va.length + da.length) ∧ Fines (n + 3) L (([.str o, .str t, .tuple [], rowX t, x5] : List PyData) ++ (va ++ da)) := by
  obtain ⟨L, hL, hf⟩ := A.fin
  have fE : Fine 1 5 (.tuple []) := (Fines.nil (k := 0)).tup
  have FS : Fines (n + 3) (9 + (84 + (5 + (121 + (em n + 0))))) [.str o, .str t, .tuple [], rowX t, x5] := .cons (Fine.word ho).k0 (.cons (Fine.str ht).k0 (.cons (fE.mono (by omega) (Nat.le_refl _)) (.cons ((rowX_fine ht).mono (by omega) (Nat.le_refl _)) (.cons A.f5 .nil))))
  exact ⟨_, by omega, FS.append hf⟩
theorem Ag.keep {K : PySem.W.Frag} {H H' : Hp} {n : Nat} {zs sc : List Str} {o t : Str} {v : V} {va da : List PyData} {x5 : PyData} (A : Ag K H n zs sc o t v va da x5) (ho : o ∈ wdsA) (ht : Nm t) (k : KeepT H H') : Ag K H' n zs sc o t v va da x5 := by
  obtain ⟨z3, z0, z2, v5, us, rfl, h1, h2, h3⟩ := A.tup
  obtain ⟨L, _, hf⟩ := A.fines ho ht
  exact ⟨⟨z3, z0, z2, v5, us, rfl, k.1 _ _ h1, dp_keepAll k _ _ hf.all.1 h2, h3⟩, A.fin, A.f5, A.c5, A.cv, A.cd, A.le⟩
/-- one more part -/
theorem Ag.more {K : PySem.W.Frag} {H H' : Hp} {n : Nat} {zs sc : List Str} {o t : Str} {v v6 : V} {va da va' da' : List PyData} {x5 x6 : PyData} {q : Addr} {us0 : List V} (A : Ag K H n zs sc o t v va da x5) (ho : o ∈ wdsA) (ht : Nm t) (k : KeepT H H')
    (hv : ∃ z3, v = .ref z3 ∧ H z3 = some (.tup us0)) (hq : H' q = some (.tup (us0 ++ [v6]))) (p6 : Dp K H' v6 x6) (f6 : Fine (n + 3) (em n) x6) (e : va' ++ da' = (va ++ da) ++ [x6]) (el : va'.length + da'.length = va.length + da.length + 1) (hl : va.length + da.length ≤ 1)
    (cv : ∀ x, x ∈ va' → Cx zs sc true (n + 2) x) (cd : ∀ x, x ∈ da' → Cx zs sc false (n + 2) x) : Ag K H' n zs sc o t (.ref q) va' da' x5 := by
  obtain ⟨z3, z0, z2, v5, us, rfl, h1, h2, h3⟩ := A.tup
  obtain ⟨z3', e3, h1'⟩ := hv
  cases e3
  rw [h1] at h1'
  cases h1'
  obtain ⟨L, _, hf⟩ := A.fines ho ht
  obtain ⟨L2, hL2, hf2⟩ := A.fin
  have h2' := dp_keepAll k _ _ hf.all.1 h2
  refine ⟨⟨q, z0, z2, v5, us ++ [v6], rfl, by rw [← List.append_assoc]; exact hq, ?_, by rw [List.length_append, h3, el]; rfl⟩, ⟨L2 + (em n + 0), ?_, ?_⟩, A.f5, A.c5, cv, cd, by omega⟩
  · rw [e, ← List.append_assoc, ← List.append_assoc]
    exact dpAll_append h2' (.cons p6 .nil)
  · rw [el, Nat.mul_add]
    omega
  · rw [e]
    exact hf2.append (.cons f6 .nil)
theorem ok_agg {n : Nat} {f f_ex f_law_pick f_cell : Addr} {fd d_ex fd_law_pick fd_cell : FuncData} {k : Nat} (F : Fun K "_law_aggregate" "_law_aggregate" s_law_aggregate f fd)
    (G_law_pick : FnOk P w K mg base CX0 k f_law_pick fd_law_pick ["_law_deck_here", "_law_some"] (sp_pick K))
    (g_law_pick : mg "_law_pick" = some (.ref f_law_pick)) (K_law_pick : PySem.W.keepIn K (.ref f_law_pick) = true) (b_law_pick : Binds K fd_law_pick ["_law_deck_here", "_law_some"] [])
    (G_cell : FnOk P w K mg base CX0 k f_cell fd_cell ps_ce sp_cell) (g_cell : mg "_law_cell" = some (.ref f_cell)) (K_cell : PySem.W.keepIn K (.ref f_cell) = true) (b_cell : Binds K fd_cell ps_ce [])
    (G : FnOk P w K mg base CX0 k f_ex d_ex ps_ex (sp_expr K n)) (g : mg "_law_expression" = some (.ref f_ex)) (Kf : PySem.W.keepIn K (.ref f_ex) = true) (b : Binds K d_ex ps_ex []) : FnOk P w K mg base CX0 (k + 1) f fd ps_ag (sp_agg K n) := by
  have nd := sc_law_aggregate.nd
  refine F.ok sc_law_aggregate (fun vs H Q E h => ?_) (fun cdv A outer s H vs Q E hr h => ?_)
  · obtain ⟨d, c, u, sc, N, deep, ts, cs, ns, scope, rfl, _⟩ := h
    rfl
  obtain ⟨d, c, u, sc, N, deep, ts, cs, ns, scope, rfl, D, hN, W, S, hdeep, q⟩ := h
  have hp := dx_pos n
  have hu1 : (A.deeper (envOfC "_law_aggregate" (defScope s_law_aggregate) s.heap.objs.size f cdv)).units + 1 < cLine := by
    have := hr.units
    omega
  refine ⟨_, (pss_cons (ps_set (i := 4) nd rfl (.inl rfl) (pe_call G_law_pick hr (by rfl) g_law_pick K_law_pick b_law_pick .nil pass0 (pa_cons (pv 0) (pa_cons (pe_dget hu1 (pv 1) pe_str noSl_str) pa_nil))))
      (pss_cons (ps_set (i := 5) nd rfl (.inl rfl) (pe_call G_law_pick hr (by rfl) g_law_pick K_law_pick b_law_pick .nil pass0 (pa_cons (pv 0) (pa_cons (pe_lst (pa_cons pe_str (pa_cons pe_str (pa_cons pe_str (pa_cons pe_str pa_nil))))) pa_nil))))
      (Evl.pss_cut (ps_set (i := 6) nd rfl (.inl rfl) (pe_tup (pa_cons (pv 5) (pa_cons (pv 4) (pa_cons (pe_tup pa_nil) (pa_cons (pe_call G_cell hr (by rfl) g_cell K_cell b_cell .nil pass0 (pa_cons (pv 4) (pa_cons (pe_tup (pa_cons pe_str pa_nil)) (pa_cons pe_str pa_nil)))) (pa_cons (pe_call G hr (by rfl) g Kf b .nil pass0 (pa_cons (pv 0) (pa_cons (pv 1) (pa_cons (pe_op op_sub (pv 2) pe_int) (pa_cons (pv 3) (pa_cons pe_int pa_nil)))))) pa_nil)))))))
      (Evl.pss_cut (ps_if (pt_cmpR op_in_seq (pv 5) (pe_tup (pa_cons pe_str (pa_cons pe_str pa_nil))) (by rfl))
      (pss_one (ps_set (i := 6) nd rfl (.inl rfl) (pe_op op_catT (pv 6) (pe_tup (pa_cons (pe_call G hr (by rfl) g Kf b .nil pass0 (pa_cons (pv 0) (pa_cons (pv 1) (pa_cons (pe_op op_sub (pv 2) pe_int) (pa_cons (pv 3) (pa_cons pe_int pa_nil)))))) pa_nil)))))
      pss_nil)
      (Evl.pss_cut (ps_if (pt_cmpR op_in_seq (pv 5) (pe_tup (pa_cons pe_str (pa_cons pe_str pa_nil))) (by rfl))
      (pss_one (ps_set (i := 6) nd rfl (.inl rfl) (pe_op op_catT (pv 6) (pe_tup (pa_cons (pe_call G hr (by rfl) g Kf b .nil pass0 (pa_cons (pv 0) (pa_cons (pv 1) (pa_cons (pe_op op_sub (pv 2) pe_int) (pa_cons (pv 3) (pa_cons pe_int pa_nil)))))) pa_nil)))))
      pss_nil)
      (pss_one (ps_ret (pv 6)))))))), ?_⟩
  obtain ⟨tl, cl, nl, kl, ks, W0⟩ := W
  refine ⟨.ref d, rfl, .ref u, rfl, u, .ref tl, rfl, ?_, .inl ⟨d, c, tl, _, _, rfl, D, by omega, .inl (.inl W0.ht), ?_, ?_, W0.t0.1, W0.t0.2, fun H2 vt k2 D2 hvt => ?_⟩⟩
  · rw [← wD_t tl cl nl kl]
    exact DGet.k (k := .inr "tables") W0.dct
  · intro e
    have := congrArg List.length e
    rw [List.length_map, W0.lt] at this
    cases this
  · rw [List.length_map, W0.lt]
    decide
  obtain ⟨t, ht, rfl⟩ := List.mem_map.mp hvt
  have nt := W0.at' t ht
  have W : AtW H d c u ts cs ns := ⟨tl, cl, nl, kl, ks, W0⟩
  clear W0
  refine ⟨.ref d, rfl, h1000 (show 4 ≤ 1000 by decide), fun l nl => ?_⟩
  have sl := same_upd (o := .lst [.str "count", .str "sum", .str "most", .str "first"]) nl
  have hln := D2.new nl
  refine .inl ⟨d, c, l, _, [.str "count", .str "sum", .str "most", .str "first"], rfl, D2.same sl, by omega, .inl (.inl upd_same), List.cons_ne_nil _ _, (show 4 ≤ 1000 by decide), hln.1, hln.2, fun H3 vo k3 D3 hvo => ?_⟩
  obtain ⟨o, ho4, rfl⟩ : ∃ o : Str, (o = "count" ∨ o = "sum" ∨ o = "most" ∨ o = "first") ∧ vo = .str o := by
    simp only [List.mem_cons, List.not_mem_nil, or_false] at hvo
    rcases hvo with rfl | rfl | rfl | rfl
    · exact ⟨_, .inl rfl, rfl⟩
    · exact ⟨_, .inr (.inl rfl), rfl⟩
    · exact ⟨_, .inr (.inr (.inl rfl)), rfl⟩
    · exact ⟨_, .inr (.inr (.inr rfl)), rfl⟩
  have ho : o ∈ wdsA := by
    rcases ho4 with rfl | rfl | rfl | rfl <;> decide
  have k03 : Keep d c H H3 := (k2.trans (Keep.of sl)).trans k3
  clear k2 D2 sl hln k3 nl
  refine ⟨fun σ' H' => ∃ v x5, σ' = [some (.ref d), some (.ref u), some (.int deep), some (.ref sc), some (.str t), some (.str o), some v] ∧ Keep d c H H' ∧ Deck H' d c (N + 2 + dx n) ∧ Ag K H' n (nmx 1 ts cs) scope o t v [] [] x5, ?_, ?_⟩
  · refine ⟨.str o, rfl, .str t, rfl, Nat.zero_le _, fun z0 m0 => ⟨.str t, rfl, h1000 (show 1 ≤ 1000 by decide), fun z1 m1 => ⟨.str t, .ref z1, .str "in", rfl, fun z2 m2 => ?_⟩⟩⟩
    have t0 := same_upd (o := .tup []) m0
    have t1 := same_upd (o := .tup [.str "key"]) m1
    have t2 := same_upd (o := .tup [.str "cell", .str t, .ref z1, .str "in"]) m2
    have b0 : Dp K (upd H3 z0 (.tup [])) (.ref z0) (.tuple []) := .tup (.inl (.inl upd_same)) .nil
    have b1 := new_tup (K := K) (.cons (.str "key") .nil) rfl m1
    have b2 : Dp K _ (.ref z2) (rowX t) := new_tup (K := K) (.cons (.str "cell") (.cons (.str t) (.cons b1 (.cons (.str "in") .nil)))) rfl m2
    have b0' := dp_keep (KeepT.of (t1.trans t2)) _ _ rfl b0
    have t02 := (t0.trans t1).trans t2
    clear t0 t1 t2 b0 b1 m0 m1 m2
    revert b0' b2 t02
    generalize upd (upd (upd H3 z0 (.tup [])) z1 (.tup [.str "key"])) z2 (.tup [.str "cell", .str t, .ref z1, .str "in"]) = H4
    intro b2 b0' t02
    have k04 := k03.trans (Keep.of t02)
    have D4 := D3.same t02
    refine ⟨.ref d, rfl, .ref u, rfl, .int deep, rfl, deep, 1, rfl, rfl, .ref sc, rfl, d, c, u, sc, _, deep - 1, 1, ts, cs, ns, scope, rfl, D4, by omega, W.keep k04, S.keep k04, by omega, by decide, by decide, fun H5 v5 x5 k5 D5 f5 c5 p5 => ⟨h1000 (show 5 ≤ 1000 by decide), fun z3 m3 => ?_⟩⟩
    have t3 := same_upd (o := .tup [.str o, .str t, .ref z0, .ref z2, v5]) m3
    have kt5 := (k5.t D4).trans (KeepT.of t3)
    refine ⟨_, x5, rfl, (k04.trans k5).trans (Keep.of t3), (D5.same t3).mono (by omega), ⟨⟨z3, z0, z2, v5, [], rfl, upd_same, ?_, rfl⟩, ⟨0, Nat.zero_le _, .nil⟩, f5, c5, (fun x hx => (nomatch hx)), (fun x hx => (nomatch hx)), (by decide)⟩⟩
    exact .cons (.str _) (.cons (.str _) (.cons (dp_keep kt5 _ _ rfl b0') (.cons (dp_keep kt5 _ _ (rowX_fine nt).flat b2) (.cons (dp_keep (KeepT.of t3) _ _ f5.flat p5) .nil))))
  clear k03 D3
  rintro σ' H3 ⟨v, x5, rfl, k03, D3, A0⟩
  -- the values
  refine ⟨fun σ' H' => ∃ v va, σ' = [some (.ref d), some (.ref u), some (.int deep), some (.ref sc), some (.str t), some (.str o), some v] ∧ Keep d c H H' ∧ Deck H' d c (N + 2 + 2 * dx n) ∧ Ag K H' n (nmx 1 ts cs) scope o t v va [] x5 ∧ va.length = (if o = "sum" ∨ o = "most" then 1 else 0), ?_, ?_⟩
  · refine ⟨.str o, rfl, h1000 (show 2 ≤ 1000 by decide), fun l nl => ⟨l, _, rfl, .inr (.inl (.inl upd_same)), rfl, rfl, ?_⟩⟩
    have sl := same_upd (o := .tup [.str "sum", .str "most"]) nl
    have A1 := A0.keep ho nt (KeepT.of sl)
    have D4 := D3.same sl
    have k04 := k03.trans (Keep.of sl)
    revert A1 D4 k04
    clear sl
    generalize upd H3 l (.tup [.str "sum", .str "most"]) = H4
    intro A1 D4 k04
    have e0 : inV (.str o) [.str "sum", .str "most"] = decide (o = "sum" ∨ o = "most") := by
      rcases ho4 with rfl | rfl | rfl | rfl <;> rfl
    refine ⟨_, rfl, ite2 (fun e1 => ?_) (fun e1 => ?_)⟩
    · have e2 : o = "sum" ∨ o = "most" := of_decide_eq_true (e0.symm.trans e1)
      refine ⟨v, rfl, .ref d, rfl, .ref u, rfl, .int deep, rfl, deep, 1, rfl, rfl, .ref sc, rfl, d, c, u, sc, _, deep - 1, 1, ts, cs, ns, scope, rfl, D4, by omega, W.keep k04, S.keep k04, by omega, by decide, by decide, fun H5 v6 x6 k5 D5 f6 c6 p6 => ⟨h1000 (show 1 ≤ 1000 by decide), fun y0 j0 => ?_⟩⟩
      have s5 := same_upd (o := .tup [v6]) j0
      obtain ⟨z3, z0, z2, v5, us, rfl, h1, h2, h3⟩ := (A1.keep ho nt ((k5.t D4).trans (KeepT.of s5))).tup
      have lus : us.length = 0 := h3
      refine ⟨z3, y0, _, _, rfl, rfl, .inl (.inl h1), .inl (.inl upd_same), List.cons_ne_nil _ _, h1000 (by rw [List.length_append]; show 5 + us.length + 1 ≤ 1000; omega), fun e => absurd e (List.cons_ne_nil _ _), fun _ pp np => ?_⟩
      have s6 := same_upd (o := .tup (([.str o, .str t, .ref z0, .ref z2, v5] ++ us) ++ [v6])) np
      have A5 := A1.keep ho nt ((k5.t D4).trans (KeepT.of s5))
      exact ⟨_, [x6], rfl, ((k04.trans k5).trans (Keep.of s5)).trans (Keep.of s6), ((D5.same s5).same s6).mono (by omega), A5.more ho nt (KeepT.of s6) ⟨z3, rfl, h1⟩ upd_same (dp_keep ((KeepT.of s5).trans (KeepT.of s6)) _ _ f6.flat p6) f6 rfl rfl (by decide) (fun x hx => by rw [List.mem_singleton.mp hx]; exact c6) (fun x hx => (nomatch hx)), (if_pos e2).symm⟩
    · have e2 : ¬ (o = "sum" ∨ o = "most") := fun h => e1 (e0.trans (decide_eq_true h))
      exact ⟨v, [], rfl, k04, D4.mono (by omega), A1, (if_neg e2).symm⟩
  clear A0 k03 D3
  rintro σ' H3 ⟨v, va, rfl, k03, D3, A0, hva⟩
  have lva : va.length ≤ 1 := by
    rw [hva]
    split <;> omega
  -- the default
  refine ⟨fun σ' H' => ∃ v da, σ' = [some (.ref d), some (.ref u), some (.int deep), some (.ref sc), some (.str t), some (.str o), some v] ∧ Keep d c H H' ∧ Deck H' d c (N + 2 + 3 * dx n) ∧ Ag K H' n (nmx 1 ts cs) scope o t v va da x5 ∧ da.length = (if o = "most" ∨ o = "first" then 1 else 0), ?_, ?_⟩
  · refine ⟨.str o, rfl, h1000 (show 2 ≤ 1000 by decide), fun l nl => ⟨l, _, rfl, .inr (.inl (.inl upd_same)), rfl, rfl, ?_⟩⟩
    have sl := same_upd (o := .tup [.str "most", .str "first"]) nl
    have A1 := A0.keep ho nt (KeepT.of sl)
    have D4 := D3.same sl
    have k04 := k03.trans (Keep.of sl)
    revert A1 D4 k04
    clear sl
    generalize upd H3 l (.tup [.str "most", .str "first"]) = H4
    intro A1 D4 k04
    have e0 : inV (.str o) [.str "most", .str "first"] = decide (o = "most" ∨ o = "first") := by
      rcases ho4 with rfl | rfl | rfl | rfl <;> rfl
    refine ⟨_, rfl, ite2 (fun e1 => ?_) (fun e1 => ?_)⟩
    · have e2 : o = "most" ∨ o = "first" := of_decide_eq_true (e0.symm.trans e1)
      refine ⟨v, rfl, .ref d, rfl, .ref u, rfl, .int deep, rfl, deep, 1, rfl, rfl, .ref sc, rfl, d, c, u, sc, _, deep - 1, 0, ts, cs, ns, scope, rfl, D4, by omega, W.keep k04, S.keep k04, by omega, by decide, by decide, fun H5 v6 x6 k5 D5 f6 c6 p6 => ⟨h1000 (show 1 ≤ 1000 by decide), fun y0 j0 => ?_⟩⟩
      have s5 := same_upd (o := .tup [v6]) j0
      obtain ⟨z3, z0, z2, v5, us, rfl, h1, h2, h3⟩ := (A1.keep ho nt ((k5.t D4).trans (KeepT.of s5))).tup
      have lus : us.length ≤ 1 := by rw [h3]; exact lva
      refine ⟨z3, y0, _, _, rfl, rfl, .inl (.inl h1), .inl (.inl upd_same), List.cons_ne_nil _ _, h1000 (by rw [List.length_append]; show 5 + us.length + 1 ≤ 1000; omega), fun e => absurd e (List.cons_ne_nil _ _), fun _ pp np => ?_⟩
      have s6 := same_upd (o := .tup (([.str o, .str t, .ref z0, .ref z2, v5] ++ us) ++ [v6])) np
      have A5 := A1.keep ho nt ((k5.t D4).trans (KeepT.of s5))
      exact ⟨_, [x6], rfl, ((k04.trans k5).trans (Keep.of s5)).trans (Keep.of s6), ((D5.same s5).same s6).mono (by omega), A5.more ho nt (KeepT.of s6) ⟨z3, rfl, h1⟩ upd_same (dp_keep ((KeepT.of s5).trans (KeepT.of s6)) _ _ f6.flat p6) f6 (by rw [List.append_nil]) rfl lva A1.cv (fun x hx => by rw [List.mem_singleton.mp hx]; exact c6), (if_pos e2).symm⟩
    · have e2 : ¬ (o = "most" ∨ o = "first") := fun h => e1 (e0.trans (decide_eq_true h))
      exact ⟨v, [], rfl, k04, D4.mono (by omega), A1, (if_neg e2).symm⟩
  clear A0 k03 D3
  rintro σ' H3 ⟨v, da, rfl, k03, D3, A0, hda⟩
  have hak : (o, va.length, da.length) ∈ aggk := by
    rw [hva, hda]
    rcases ho4 with rfl | rfl | rfl | rfl <;> decide
  obtain ⟨L, hL, hf⟩ := A0.fines ho nt
  have hll := A0.le
  have hem : em (n + 1) = 3 * em n + 240 := rfl
  have hmul : em n * (va.length + da.length) ≤ em n * 2 := Nat.mul_le_mul_left _ hll
  obtain ⟨z3, z0, z2, v5, us, rfl, h1, h2, h3⟩ := A0.tup
  have hin : ("#" : Str) ∈ nmx 1 ts cs := List.mem_cons_of_mem _ (List.mem_append_right _ (List.mem_append_right _ mark_in))
  have CA := Cx.agg (zs := nmx 1 ts cs) (sc := scope) false (n + 2) o t x5 [] va da hin (by omega) hak ⟨List.mem_cons_of_mem _ (List.mem_append_left _ ht), nm_hash nt⟩ (Nat.zero_le _) (fun x hx => (nomatch hx)) A0.c5 A0.cv A0.cd
  exact ⟨.ref z3, rfl, q _ _ _ k03 D3 (hf.tup.mono (by omega) (by omega)) CA (.tup (.inl (.inl h1)) h2)⟩
end
end L10

namespace L10
open PySem PySem.Spec PyProof.Rows L2 GR
section
variable {P : Program} {w : World} {K : PySem.W.Frag} {mg : Str → Option Value} {base : Heap}
theorem ok_expr_step {n : Nat} {f f_law_draw f_law_pick f_leaf f_cell f_agg : Addr} {fd fd_law_draw fd_law_pick d_leaf d_cell d_agg : FuncData} {k : Nat} (F : Fun K "_law_expression" "_law_expression" s_law_expression f fd) (G_law_draw : FnOk P w K mg base CX0 k f_law_draw fd_law_draw ["_law_deck_here", "_law_most"] sp_draw)
    (g_law_draw : mg "_law_draw" = some (.ref f_law_draw)) (K_law_draw : PySem.W.keepIn K (.ref f_law_draw) = true) (b_law_draw : Binds K fd_law_draw ["_law_deck_here", "_law_most"] [])
    (G_law_pick : FnOk P w K mg base CX0 k f_law_pick fd_law_pick ["_law_deck_here", "_law_some"] (sp_pick K))
    (g_law_pick : mg "_law_pick" = some (.ref f_law_pick)) (K_law_pick : PySem.W.keepIn K (.ref f_law_pick) = true) (b_law_pick : Binds K fd_law_pick ["_law_deck_here", "_law_some"] [])
    (G_leaf : FnOk P w K mg base CX0 k f_leaf d_leaf ps_lf (sp_leaf K)) (g_leaf : mg "_law_leaf" = some (.ref f_leaf)) (K_leaf : PySem.W.keepIn K (.ref f_leaf) = true) (b_leaf : Binds K d_leaf ps_lf [])
    (G_cell : FnOk P w K mg base CX0 k f_cell d_cell ps_ce sp_cell) (g_cell : mg "_law_cell" = some (.ref f_cell)) (K_cell : PySem.W.keepIn K (.ref f_cell) = true) (b_cell : Binds K d_cell ps_ce [])
    (G_agg : FnOk P w K mg base CX0 k f_agg d_agg ps_ag (fun vs H Q E => ∃ m, n = m + 1 ∧ sp_agg K m vs H Q E)) (g_agg : mg "_law_aggregate" = some (.ref f_agg)) (K_agg : PySem.W.keepIn K (.ref f_agg) = true) (b_agg : Binds K d_agg ps_ag [])
    (G : FnOk P w K mg base CX0 k f fd ps_ex (fun vs H Q E => ∃ m, n = m + 1 ∧ sp_expr K m vs H Q E)) (g : mg "_law_expression" = some (.ref f)) (Kf : PySem.W.keepIn K (.ref f) = true) (b : Binds K fd ps_ex [])
    (mmax : mg "max" = none) : FnOk P w K mg base CX0 (k + 1) f fd ps_ex (sp_expr K n) := by
  have nd := sc_law_expression.nd
  refine F.ok sc_law_expression (fun vs H Q E h => ?_) (fun cdv A outer s H vs Q E hr h => ?_)
  · obtain ⟨d, c, u, sc, N, deep, loose, ts, cs, ns, scope, rfl, _⟩ := h
    rfl
  obtain ⟨d, c, u, sc, N, deep, loose, ts, cs, ns, scope, rfl, D, hN, W, S, hdeep, hl0, hl2, q⟩ := h
  have hp := dx_pos n
  have hu1 : (A.deeper (envOfC "_law_expression" (defScope s_law_expression) s.heap.objs.size f cdv)).units + 1 < cLine := by
    have := hr.units
    omega
  refine ⟨_, (pss_cons (ps_set (i := 5) nd rfl (.inl rfl) (pe_call G_law_draw hr (by rfl) g_law_draw K_law_draw b_law_draw .nil pass0 (pa_cons (pv 0) (pa_cons pe_int pa_nil))))
      (Evl.pss_cut (ps_if (PW.pt (pw_or (pt_cmpR op_lt (pv 2) pe_int (nomark _)) (pw_or1 (pt_cmpR op_lt (pv 5) pe_int (nomark _)))))
      (pss_one (ps_ret (pe_call G_leaf hr (by rfl) g_leaf K_leaf b_leaf .nil pass0 (pa_cons (pv 0) (pa_cons (pv 1) (pa_cons (pv 3) (pa_cons (pe_cmpR op_gt (pv 4) pe_int (nomark _)) pa_nil)))))))
      pss_nil)
      (pss_cons (ps_set (i := 6) nd rfl (.inl rfl) (pe_call G hr (by rfl) g Kf b .nil pass0 (pa_cons (pv 0) (pa_cons (pv 1) (pa_cons (pe_op op_sub (pv 2) pe_int) (pa_cons (pv 3) (pa_cons (pv 4) pa_nil)))))))
      (Evl.pss_cut (ps_set (i := 7) nd rfl (.inl rfl) (pe_ifExp (pt_cmpR op_eq (pv 4) pe_int (nomark _)) (pe_call G_leaf hr (by rfl) g_leaf K_leaf b_leaf .nil pass0 (pa_cons (pv 0) (pa_cons (pv 1) (pa_cons (pv 3) (pa_cons pe_bl pa_nil))))) (pv 6)))
      (pss_cons (ps_if (pt_cmpR op_lt (pv 5) pe_int (nomark _))
      (pss_one (ps_ret (pe_call G_cell hr (by rfl) g_cell K_cell b_cell .nil pass0 (pa_cons (pe_call G_law_pick hr (by rfl) g_law_pick K_law_pick b_law_pick .nil pass0 (pa_cons (pv 0) (pa_cons (pe_dget hu1 (pv 1) pe_str noSl_str) pa_nil))) (pa_cons (pv 7) (pa_cons (pe_call G_law_pick hr (by rfl) g_law_pick K_law_pick b_law_pick .nil pass0 (pa_cons (pv 0) (pa_cons (pe_dget hu1 (pv 1) pe_str noSl_str) pa_nil))) pa_nil))))))
      pss_nil)
      (Evl.pss_cut (ps_if (PW.pt (pw_and (pt_cmpR op_eq (pv 5) pe_int (nomark _)) (pw_and1 (pt_cmpR op_lt (pv 4) pe_int (nomark _)))))
      (pss_one (ps_ret (pe_call G_agg hr (by rfl) g_agg K_agg b_agg .nil pass0 (pa_cons (pv 0) (pa_cons (pv 1) (pa_cons (pv 2) (pa_cons (pv 3) pa_nil)))))))
      pss_nil)
      (pss_cons (ps_set (i := 8) nd rfl (.inl rfl) (pe_call G hr (by rfl) g Kf b .nil pass0 (pa_cons (pv 0) (pa_cons (pv 1) (pa_cons (pe_op op_sub (pv 2) pe_int) (pa_cons (pv 3) (pa_cons (pv 4) pa_nil)))))))
      (pss_cons (ps_if (pt_cmpR op_lt (pv 5) pe_int (nomark _))
      (pss_one (ps_ret (pe_tup (pa_cons (pe_call G_law_pick hr (by rfl) g_law_pick K_law_pick b_law_pick .nil pass0 (pa_cons (pv 0) (pa_cons (pe_lst (pa_cons pe_str (pa_cons pe_str (pa_cons pe_str (pa_cons pe_str (pa_cons pe_str (pa_cons pe_str pa_nil))))))) pa_nil))) (pa_cons (pv 6) (pa_cons (pv 8) pa_nil))))))
      pss_nil)
      (pss_cons (ps_if (pt_cmpR op_eq (pv 5) pe_int (nomark _))
      (pss_one (ps_ret (pe_tup (pa_cons pe_str (pa_cons (pv 7) (pa_cons (pe_call G hr (by rfl) g Kf b .nil pass0 (pa_cons (pv 0) (pa_cons (pv 1) (pa_cons (pe_op op_sub (pv 2) pe_int) (pa_cons (pv 3) (pa_cons (pe_callB (call_max2 rfl) (by rfl) mmax boot_max (pa_cons pe_int (pa_cons (pv 4) pa_nil))) pa_nil)))))) pa_nil))))))
      pss_nil)
      (pss_one (ps_ret (pe_tup (pa_cons pe_str (pa_cons (pv 6) (pa_cons (pv 8) (pa_cons (pe_call G hr (by rfl) g Kf b .nil pass0 (pa_cons (pv 0) (pa_cons (pv 1) (pa_cons (pe_op op_sub (pv 2) pe_int) (pa_cons (pv 3) (pa_cons (pv 4) pa_nil)))))) pa_nil)))))))))))))))), ?_⟩
  have LIM : (10 : Int) ^ 18 = 1000000000000000000 := by decide
  refine ⟨.ref d, rfl, d, c, N, 12, rfl, D, by omega, by decide, by decide, fun H1 way k1 D1 w0 w1 => ?_⟩
  refine ⟨fun σ' H' => σ' = [some (.ref d), some (.ref u), some (.int deep), some (.ref sc), some (.int loose), some (.int way), none, none, none] ∧ H' = H1 ∧ ¬ deep < 1, ?_, ?_⟩
  · have leaf : ∀ H' v x, Keep d c H1 H' → Deck H' d c (N + 1 + 5) → Fine 3 100 x → (∀ zs, Cx zs scope (decide (loose > 0)) 1 x) → Dp K H' v x → Q v H' := fun H' v x k' D' f' c' p' =>
      q H' v x (k1.trans k') (D'.mono (by omega)) (f'.mono (by omega) (em_pos n)) ((c' _).mono (by omega)) p'
    refine ⟨.int deep, rfl, _, _, rfl, rfl, _, rfl, iteA ?leaf (fun e => ⟨.int way, rfl, _, _, rfl, rfl, _, rfl, ite2 (fun _ => ?leaf) (fun e2 => ⟨rfl, rfl, by simpa using e⟩)⟩)⟩
    exact ⟨.ref d, rfl, .ref u, rfl, .ref sc, rfl, .int loose, rfl, _, _, rfl, rfl, d, c, u, sc, _, _, ts, cs, ns, scope, rfl, D1, by omega, W.keep k1, S.keep k1, leaf⟩
  rintro σ' _ ⟨rfl, rfl, e⟩
  obtain ⟨m, rfl⟩ : ∃ m, n = m + 1 := ⟨n - 1, by omega⟩
  have hdx : dx (m + 1) = 30 + 6 * dx m := rfl
  have hem : em (m + 1) = 3 * em m + 240 := rfl
  have hpm := dx_pos m
  have hme := em_pos m
  -- one
  refine ⟨.ref d, rfl, .ref u, rfl, .int deep, rfl, deep, 1, rfl, rfl, .ref sc, rfl, .int loose, rfl, m, rfl, d, c, u, sc, _, deep - 1, loose, ts, cs, ns, scope, rfl, D1, by omega, W.keep k1, S.keep k1, by omega, hl0, hl2, fun H3 v1 x1 k3 D3x f1 c1 p1 => ?_⟩
  have k03 := k1.trans k3
  -- near
  refine ⟨fun σ' H' => ∃ vn xn, σ' = [some (.ref d), some (.ref u), some (.int deep), some (.ref sc), some (.int loose), some (.int way), some v1, some vn, none] ∧ Keep d c H H' ∧ Deck H' d c (N + 6 + dx m) ∧ Dp K H' v1 x1 ∧ Dp K H' vn xn ∧ Fine (m + 3) (em m) xn ∧ Cx (nmx loose ts cs) scope (decide (0 < loose)) (m + 2) xn, ?_, ?_⟩
  · refine ⟨.int loose, rfl, rfl, _, rfl, ite2 (fun e3 => ?_) (fun e3 => ?_)⟩
    · refine ⟨.ref d, rfl, .ref u, rfl, .ref sc, rfl, d, c, u, sc, _, true, ts, cs, ns, scope, rfl, D3x, by omega, W.keep k03, S.keep k03, fun H4 vn xn k4 D4 fn cn pn => ?_⟩
      have hl : 0 < loose := by
        have := of_decide_eq_true e3
        injection this with this
        omega
      exact ⟨vn, xn, rfl, k03.trans k4, D4.mono (by omega), dp_keep (k4.t D3x) _ _ f1.flat p1, pn, fn.mono (by omega) (em_pos m), by rw [decide_eq_true hl]; exact (cn _).mono (by omega)⟩
    · exact ⟨v1, rfl, v1, x1, rfl, k03, D3x.mono (by omega), p1, p1, f1, c1⟩
  clear k03 D3x p1 k3
  rintro σ' H4 ⟨vn, xn, rfl, k04, D4, p14, pn4, fn, cn⟩
  have W4 := W.keep k04
  have S4 := S.keep k04
  refine ⟨.int way, rfl, _, _, rfl, rfl, _, rfl, ite2 (fun e4 => ?_) (fun e4 => ?_)⟩
  · obtain ⟨tl, cl, nl, kl, ks, W4⟩ := W4
    refine ⟨.ref d, rfl, .ref u, rfl, u, .ref tl, rfl, ?_, .inl ⟨d, c, tl, _, _, rfl, D4, by omega, .inl (.inl W4.ht), ?_, ?_, W4.t0.1, W4.t0.2, fun H5 vt k5 D5 hvt => ?_⟩⟩
    · rw [← wD_t tl cl nl kl]
      exact DGet.k (k := .inr "tables") W4.dct
    · intro e
      have := congrArg List.length e
      rw [List.length_map, W4.lt] at this
      cases this
    · rw [List.length_map, W4.lt]
      decide
    obtain ⟨t, ht, rfl⟩ := List.mem_map.mp hvt
    have ft := Fine.str (W4.at' t ht)
    have W5 := W4.keep k5
    have nt := W4.at' t ht
    refine ⟨vn, rfl, .ref d, rfl, .ref u, rfl, u, .ref cl, rfl, ?_, .inl ⟨d, c, cl, _, _, rfl, D5, by omega, .inl (.inl W5.hc), ?_, ?_, W5.c0.1, W5.c0.2, fun H6 vc k6 D6 hvc => ?_⟩⟩
    · rw [← wD_c tl cl nl kl]
      exact DGet.k (k := .inr "columns") W5.dct
    · intro e
      have := congrArg List.length e
      rw [List.length_map, W5.lc] at this
      cases this
    · rw [List.length_map, W5.lc]
      decide
    obtain ⟨z, hz, rfl⟩ := List.mem_map.mp hvc
    have fz := Fine.str (W5.ac z hz)
    refine ⟨_, _, _, rfl, fun p np => ?_⟩
    have s6 := same_upd (o := .tup [.str "cell", .str t, vn, .str z]) np
    have pn5 := dp_keep ((k5.t D4).trans (k6.t D5)) _ _ fn.flat pn4
    have F := (Fines.cons (Fine.word (w := "cell") (by decide)).k0 (.cons ft.k0 (.cons fn (.cons fz.k0 .nil)))).tup
    exact q _ _ _ (((k04.trans k5).trans k6).trans (Keep.of s6)) ((D6.same s6).mono (by omega)) (F.mono (by omega) (by omega)) (.cell _ _ _ _ _ ⟨List.mem_cons_of_mem _ (List.mem_append_left _ ht), nm_hash nt⟩ ⟨List.mem_cons_of_mem _ (List.mem_append_right _ (List.mem_append_left _ hz)), nm_hash (W5.ac z hz)⟩ cn) (new_tup (.cons (.str _) (.cons (.str _) (.cons pn5 (.cons (.str _) .nil)))) (by simp only [flatDs, flatD, fn.flat, Bool.and_self]) np)
  -- an aggregate
  refine ⟨fun σ' H' => σ' = [some (.ref d), some (.ref u), some (.int deep), some (.ref sc), some (.int loose), some (.int way), some v1, some vn, none] ∧ H' = H4, ?_, ?_⟩
  · refine ⟨.int way, rfl, rfl, _, rfl, ite2 (fun e5 => ⟨.int loose, rfl, _, _, rfl, rfl, _, rfl, ite2 (fun e6 => ?_) (fun e6 => ⟨rfl, rfl⟩)⟩) (fun e5 => ⟨rfl, rfl⟩)⟩
    have hl : loose < 2 := of_decide_eq_true e6
    refine ⟨.ref d, rfl, .ref u, rfl, .int deep, rfl, .ref sc, rfl, m, rfl, d, c, u, sc, _, deep, ts, cs, ns, scope, rfl, D4, by omega, W4, S4, by omega, fun H5 v x k5 D5 f5 c5 p5 => ?_⟩
    refine q _ _ _ (k04.trans k5) (D5.mono (by omega)) f5 ?_ p5
    rw [← nmx_one (l := loose) (by omega) hl2]
    rcases Bool.eq_false_or_eq_true (decide (0 < loose)) with e | e
    · rw [e]; exact c5.free
    · rw [e]; exact c5
  rintro σ' _ ⟨rfl, rfl⟩
  -- the other
  refine ⟨.ref d, rfl, .ref u, rfl, .int deep, rfl, deep, 1, rfl, rfl, .ref sc, rfl, .int loose, rfl, m, rfl, d, c, u, sc, _, deep - 1, loose, ts, cs, ns, scope, rfl, D4, by omega, W4, S4, by omega, hl0, hl2, fun H5 v2 x2 k5 D5 f2 c2 p2 => ?_⟩
  have k05 := k04.trans k5
  have p15 := dp_keep (k5.t D4) _ _ f1.flat p14
  have pn5 := dp_keep (k5.t D4) _ _ fn.flat pn4
  refine ⟨.int way, rfl, _, _, rfl, rfl, _, rfl, ite2 (fun e5 => ?_) (fun e5 => ?_)⟩
  · refine ⟨.ref d, rfl, h1000 (show 6 ≤ 1000 by decide), fun l nl => ?_⟩
    have sl := same_upd (o := .lst [.str "+", .str "-", .str "*", .str "<", .str "=", .str "+"]) nl
    have hln := D5.new nl
    refine .inl ⟨d, c, l, _, [.str "+", .str "-", .str "*", .str "<", .str "=", .str "+"], rfl, D5.same sl, by omega, .inl (.inl upd_same), List.cons_ne_nil _ _, (show 6 ≤ 1000 by decide), hln.1, hln.2, fun H6 vo k6 D6 hvo => ?_⟩
    obtain ⟨o, ho, ho5, rfl⟩ : ∃ o : Str, o ∈ (["int", "key", "var", "cell", "if", "+", "-", "*", "<", "=", "at", "count", "sum", "most", "first", "in", "let", "need", "tell", "put", "each"] : List Str) ∧ o ∈ ops5 ∧ vo = .str o := by
      simp only [List.mem_cons, List.not_mem_nil, or_false] at hvo
      rcases hvo with rfl | rfl | rfl | rfl | rfl | rfl
      · exact ⟨_, by decide, by decide, rfl⟩
      · exact ⟨_, by decide, by decide, rfl⟩
      · exact ⟨_, by decide, by decide, rfl⟩
      · exact ⟨_, by decide, by decide, rfl⟩
      · exact ⟨_, by decide, by decide, rfl⟩
      · exact ⟨_, by decide, by decide, rfl⟩
    have kt6 := (KeepT.of sl).trans (k6.t (D5.same sl))
    refine ⟨v1, rfl, v2, rfl, h1000 (show 3 ≤ 1000 by decide), fun p np => ?_⟩
    have s7 := same_upd (o := .tup [.str o, v1, v2]) np
    have F := (Fines.cons (Fine.word ho).k0 (.cons f1 (.cons f2 .nil))).tup
    exact q _ _ _ ((k05.trans (Keep.of sl)).trans (k6.trans (Keep.of s7))) ((D6.same s7).mono (by omega)) (F.mono (by omega) (by omega)) (.op _ _ _ _ _ ho5 c1 c2) (new_tup (.cons (.str _) (.cons (dp_keep kt6 _ _ f1.flat p15) (.cons (dp_keep kt6 _ _ f2.flat p2) .nil))) (by simp only [flatDs, flatD, f1.flat, f2.flat, Bool.and_self]) np)
  have W5 := W.keep k05
  have S5 := S.keep k05
  refine ⟨.int way, rfl, rfl, _, rfl, ite2 (fun e6 => ?_) (fun e6 => ?_)⟩
  · refine ⟨vn, rfl, .ref d, rfl, .ref u, rfl, .int deep, rfl, deep, 1, rfl, rfl, .ref sc, rfl, .int loose, rfl, _, _, rfl, m, rfl, d, c, u, sc, _, deep - 1, _, ts, cs, ns, scope, rfl, D5, by omega, W5, S5, by omega, ?_, ?_, fun H6 v3 x3 k6 D6 f3 c3 p3 => ⟨h1000 (show 3 ≤ 1000 by decide), fun p np => ?_⟩⟩
    · split <;> omega
    · split <;> omega
    have c3t : Cx (nmx loose ts cs) scope true (m + 2) x3 := by
      have := c3.free
      rw [nmx_max hl0 hl2] at this
      exact this
    have s7 := same_upd (o := .tup [.str "at", vn, v3]) np
    have F := (Fines.cons (Fine.word (w := "at") (by decide)).k0 (.cons fn (.cons f3 .nil))).tup
    exact q _ _ _ ((k05.trans k6).trans (Keep.of s7)) ((D6.same s7).mono (by omega)) (F.mono (by omega) (by omega)) (.at_ _ _ _ _ cn c3t) (new_tup (.cons (.str _) (.cons (dp_keep (k6.t D5) _ _ fn.flat pn5) (.cons p3 .nil))) (by simp only [flatDs, flatD, fn.flat, f3.flat, Bool.and_self]) np)
  · refine ⟨v1, rfl, v2, rfl, .ref d, rfl, .ref u, rfl, .int deep, rfl, deep, 1, rfl, rfl, .ref sc, rfl, .int loose, rfl, m, rfl, d, c, u, sc, _, deep - 1, loose, ts, cs, ns, scope, rfl, D5, by omega, W5, S5, by omega, hl0, hl2, fun H7 v4 x4 k7 D7 f4 c4 p4 => ⟨h1000 (show 4 ≤ 1000 by decide), fun p np => ?_⟩⟩
    have s8 := same_upd (o := .tup [.str "if", v1, v2, v4]) np
    have F := (Fines.cons (Fine.word (w := "if") (by decide)).k0 (.cons f1 (.cons f2 (.cons f4 .nil)))).tup
    exact q _ _ _ ((k05.trans k7).trans (Keep.of s8)) ((D7.same s8).mono (by omega)) (F.mono (by omega) (by omega)) (.iff _ _ _ _ _ c1 c2 c4) (new_tup (.cons (.str _) (.cons (dp_keep (k7.t D5) _ _ f1.flat p15) (.cons (dp_keep (k7.t D5) _ _ f2.flat p2) (.cons p4 .nil)))) (by simp only [flatDs, flatD, f1.flat, f2.flat, f4.flat, Bool.and_self]) np)
end
end L10

namespace L10
open PySem PySem.Spec PyProof.Rows L2 GR
section
variable {P : Program} {w : World} {K : PySem.W.Frag} {mg : Str → Option Value} {base : Heap}
theorem ok_none {k : Nat} {f : Addr} {fd : FuncData} {ps : List Str} {sp : Sp} (h : ∀ vs H Q E, ¬ sp vs H Q E) : FnOk P w K mg base CX0 k f fd ps sp :=
  ⟨fun vs H Q E q => absurd q (h vs H Q E), fun A outer s H args us vs Q E hr he hb hv hs => absurd hs (h vs H Q E)⟩
theorem ok_exprs {f f_law_draw f_law_pick f_leaf f_cell f_agg : Addr} {fd fd_law_draw fd_law_pick d_leaf d_cell d_agg : FuncData} {k : Nat} (F : Fun K "_law_expression" "_law_expression" s_law_expression f fd) (FA : Fun K "_law_aggregate" "_law_aggregate" s_law_aggregate f_agg d_agg) (G_law_draw : FnOk P w K mg base CX0 k f_law_draw fd_law_draw ["_law_deck_here", "_law_most"] sp_draw)
    (g_law_draw : mg "_law_draw" = some (.ref f_law_draw)) (K_law_draw : PySem.W.keepIn K (.ref f_law_draw) = true) (b_law_draw : Binds K fd_law_draw ["_law_deck_here", "_law_most"] [])
    (G_law_pick : FnOk P w K mg base CX0 k f_law_pick fd_law_pick ["_law_deck_here", "_law_some"] (sp_pick K))
    (g_law_pick : mg "_law_pick" = some (.ref f_law_pick)) (K_law_pick : PySem.W.keepIn K (.ref f_law_pick) = true) (b_law_pick : Binds K fd_law_pick ["_law_deck_here", "_law_some"] [])
    (G_leaf : FnOk P w K mg base CX0 k f_leaf d_leaf ps_lf (sp_leaf K)) (g_leaf : mg "_law_leaf" = some (.ref f_leaf)) (K_leaf : PySem.W.keepIn K (.ref f_leaf) = true) (b_leaf : Binds K d_leaf ps_lf [])
    (G_cell : FnOk P w K mg base CX0 k f_cell d_cell ps_ce sp_cell) (g_cell : mg "_law_cell" = some (.ref f_cell)) (K_cell : PySem.W.keepIn K (.ref f_cell) = true) (b_cell : Binds K d_cell ps_ce [])
    (g_agg : mg "_law_aggregate" = some (.ref f_agg)) (K_agg : PySem.W.keepIn K (.ref f_agg) = true) (b_agg : Binds K d_agg ps_ag [])
    (g : mg "_law_expression" = some (.ref f)) (Kf : PySem.W.keepIn K (.ref f) = true) (b : Binds K fd ps_ex [])
    (mmax : mg "max" = none) : ∀ n : Nat, FnOk P w K mg base CX0 (k + 2 * n + 1) f fd ps_ex (sp_expr K n)
  | 0 => ok_expr_step (k := k) F G_law_draw g_law_draw K_law_draw b_law_draw G_law_pick g_law_pick K_law_pick b_law_pick G_leaf g_leaf K_leaf b_leaf G_cell g_cell K_cell b_cell (ok_none fun vs H Q E ⟨m, h, _⟩ => by omega) g_agg K_agg b_agg (ok_none fun vs H Q E ⟨m, h, _⟩ => by omega) g Kf b mmax
  | n + 1 => by
    have ih := ok_exprs F FA G_law_draw g_law_draw K_law_draw b_law_draw G_law_pick g_law_pick K_law_pick b_law_pick G_leaf g_leaf K_leaf b_leaf G_cell g_cell K_cell b_cell g_agg K_agg b_agg g Kf b mmax n
    have ia := ok_agg (k := k + 2 * n + 1) FA (G_law_pick.mono (by omega)) g_law_pick K_law_pick b_law_pick (G_cell.mono (by omega)) g_cell K_cell b_cell ih g Kf b
    refine ok_expr_step (k := k + 2 * n + 2) F (G_law_draw.mono (by omega)) g_law_draw K_law_draw b_law_draw (G_law_pick.mono (by omega)) g_law_pick K_law_pick b_law_pick (G_leaf.mono (by omega)) g_leaf K_leaf b_leaf (G_cell.mono (by omega)) g_cell K_cell b_cell (ia.imp ?_) g_agg K_agg b_agg ((ih.mono (by omega)).imp ?_) g Kf b mmax
    · rintro vs H Q E ⟨m, hm, h⟩
      obtain rfl : n = m := by omega
      exact h
    · rintro vs H Q E ⟨m, hm, h⟩
      obtain rfl : n = m := by omega
      exact h
/-! ### statements -/
/-- the table and column that a statement writes to; whether it is a let -/
def colD : PyData → Option (Str × Str)
  | .tuple [.str w, .str t, _, .str z, _] => if w = "put" ∨ w = "each" then some (t, z) else none
  | _ => none
def isLet : PyData → Bool
  | .tuple (.str w :: _) => decide (w = "let")
  | _ => false
/-- the form of a statement: its word, the next thing, the others -/
def SF (w : Str) (v1 : V) (vs : List V) (x : PyData) : Prop := (w = "let" ∧ isLet x = true ∧ colD x = none ∧ ∃ z e, v1 = .str z ∧ Nm z ∧ vs = [e]) ∨ ((w = "need" ∨ w = "tell") ∧ isLet x = false ∧ colD x = none ∧ vs = []) ∨
  ((w = "put" ∨ w = "each") ∧ isLet x = false ∧ ∃ t e z f, v1 = .str t ∧ vs = [e, .str z, f] ∧ colD x = some (t, z) ∧ Nm t ∧ Nm z)
theorem isLet_t {w : Str} {ds : List PyData} (h : w = "let") : isLet (.tuple (.str w :: ds)) = true := decide_eq_true h
theorem isLet_f {w : Str} {ds : List PyData} (h : w ≠ "let") : isLet (.tuple (.str w :: ds)) = false := decide_eq_false h
theorem colD_p {w t z : Str} {x y : PyData} (h : w = "put" ∨ w = "each") : colD (.tuple [.str w, .str t, x, .str z, y]) = some (t, z) := if_pos h
theorem colD_2 {w : Str} : ∀ x : PyData, colD (.tuple [.str w, x]) = none := fun x => by cases x <;> rfl
theorem SF.let' {w : Str} {v1 : V} {vs : List V} {x : PyData} (h : SF w v1 vs x) (e : w = "let") : ∃ z, v1 = .str z ∧ Nm z := by
  subst e
  rcases h with ⟨_, _, _, z, _, h1, h2, _⟩ | ⟨h, _⟩ | ⟨h, _⟩
  · exact ⟨z, h1, h2⟩
  · rcases h with h | h <;> exact absurd h (by decide)
  · rcases h with h | h <;> exact absurd h (by decide)
/-- a statement by its expressions; sc: the variables that are let ahead of it -/
inductive StX (ts cs sc : List Str) : PyData → Prop
  | let_ (z : Str) (x : PyData) : Nm z → z ∉ sc → Cx (nmx 0 ts cs) sc false 5 x → StX ts cs sc (.tuple [.str "let", .str z, x])
  | need (x : PyData) : Cx (nmx 0 ts cs) sc false 5 x → StX ts cs sc (.tuple [.str "need", .tuple [.str "<", .tuple [.str "int", .int (0 - 3)], x]])
  | tell (x : PyData) : Cx (nmx 0 ts cs) sc false 5 x → StX ts cs sc (.tuple [.str "tell", x])
  | each (t z : Str) (x y : PyData) : t ∈ ts → z ∈ cs → Cx (nmx 2 ts cs) sc true 5 x → Cx (nmx 2 ts cs) sc true 5 y → StX ts cs sc (.tuple [.str "each", .str t, x, .str z, y])
  | put (t z : Str) (x y : PyData) : t ∈ ts → (z ∈ cs ∨ z = "in") → Cx (nmx 0 ts cs) sc false 5 x → Cx (nmx 0 ts cs) sc false 5 y → StX ts cs sc (.tuple [.str "put", .str t, x, .str z, y])
/-- the variable that a statement lets -/
def letNm : PyData → Option Str
  | .tuple (.str w :: .str z :: _) => if w = "let" then some z else none
  | _ => none
theorem letNm_no {w : Str} {r : List PyData} (h : w ≠ "let") : letNm (.tuple (.str w :: r)) = none := by
  cases r with
  | nil => rfl
  | cons a r => cases a <;> first | rfl | exact if_neg h
/-- the object of a let -/
def LetH (H : Hp) (v : V) (x : PyData) : Prop := ∀ z, letNm x = some z → ∃ (p : Addr) (e : V), v = .ref p ∧ H p = some (.tup [.str "let", .str z, e])
theorem LetH.no {H : Hp} {v : V} {x : PyData} (h : letNm x = none) : LetH H v x := fun z e => by rw [h] at e; cases e
theorem LetH.keep {H H' : Hp} {v : V} {x : PyData} (h : LetH H v x) (k : KeepT H H') : LetH H' v x := fun z e => by
  obtain ⟨p, u, h1, h2⟩ := h z e
  exact ⟨p, u, h1, k.1 _ _ h2⟩
theorem in_strs (z : Str) (W : List Str) : inV (.str z) (W.map V.str) = decide (z ∈ W) := by
  unfold inV
  rw [List.any_map, Bool.eq_iff_iff, List.any_eq_true, decide_eq_true_eq]
  constructor
  · rintro ⟨f, hf, e⟩
    have : z = f := by
      have e' : eqV (.str f) (.str z) = true := e
      simp [eqV] at e'
      exact e'.symm
    rw [this]
    exact hf
  · intro h
    exact ⟨z, h, by show eqV (.str z) (.str z) = true; simp [eqV]⟩
/-- a statement: a tuple of one of these forms -/
def SV (K : PySem.W.Frag) (H : Hp) (v : V) (x : PyData) : Prop := ∃ (p : Addr) (w : Str) (v1 : V) (vs : List V), v = .ref p ∧ H p = some (.tup (.str w :: v1 :: vs)) ∧ SF w v1 vs x ∧ Dp K H v x ∧ Fine 8 12000 x
theorem SV.keep {K : PySem.W.Frag} {H H' : Hp} {v : V} {x : PyData} (h : SV K H v x) (k : KeepT H H') : SV K H' v x := by
  obtain ⟨p, w, v1, vs, rfl, h1, h2, h3, h4⟩ := h
  exact ⟨p, w, v1, vs, rfl, k.1 _ _ h1, h2, dp_keep k _ _ h4.flat h3, h4⟩
abbrev s_law_statement : Stmt := topS 79
abbrev N_st : List Str := ["_law_deck_here", "_law_world_here", "_law_scope", "_law_deep", "_law_way", "_law_table", "_law_column", "_law_left", "_law_guard", "_law_key", "_law_name"]
abbrev ps_st : List Str := ["_law_deck_here", "_law_world_here", "_law_scope", "_law_deep"]
theorem sc_law_statement : FnScope N_st ps_st (defScope s_law_statement) := ⟨rfl, rfl, rfl, by decide +kernel, rfl, by decide +kernel, by decide +kernel⟩
def sp_stmt (K : PySem.W.Frag) : Sp := fun vs H Q _ => ∃ (d c u sc : Addr) (N deep : Int) (ts cs ns scope : List Str), vs = [.ref d, .ref u, .ref sc, .int deep] ∧ deep ≤ 3 ∧ Deck H d c N ∧ N < 2 ^ 53 ∧ AtW H d c u ts cs ns ∧ Scp H d c sc scope ∧
  ∀ H' v x, Keep d c H H' → Deck H' d c (N + 20000) → SV K H' v x → StX ts cs scope x → LetH H' v x → (∀ z, letNm x = some z → z ∈ ns) → Q v H'
theorem flat_map_str (zs : List Str) : (zs.map V.str).all flatV = true := by
  rw [List.all_eq_true]
  intro v hv
  obtain ⟨z, _, rfl⟩ := List.mem_map.mp hv
  rfl
theorem ok_stmt {f f_law_draw f_law_pick f_ex f_leaf : Addr} {fd fd_law_draw fd_law_pick d_ex d_leaf : FuncData} {k : Nat} (F : Fun K "_law_statement" "_law_statement" s_law_statement f fd) (G_law_draw : FnOk P w K mg base CX0 k f_law_draw fd_law_draw ["_law_deck_here", "_law_most"] sp_draw)
    (g_law_draw : mg "_law_draw" = some (.ref f_law_draw)) (K_law_draw : PySem.W.keepIn K (.ref f_law_draw) = true) (b_law_draw : Binds K fd_law_draw ["_law_deck_here", "_law_most"] [])
    (G_law_pick : FnOk P w K mg base CX0 k f_law_pick fd_law_pick ["_law_deck_here", "_law_some"] (sp_pick K))
    (g_law_pick : mg "_law_pick" = some (.ref f_law_pick)) (K_law_pick : PySem.W.keepIn K (.ref f_law_pick) = true) (b_law_pick : Binds K fd_law_pick ["_law_deck_here", "_law_some"] [])
    (G_leaf : FnOk P w K mg base CX0 k f_leaf d_leaf ps_lf (sp_leaf K)) (g_leaf : mg "_law_leaf" = some (.ref f_leaf)) (K_leaf : PySem.W.keepIn K (.ref f_leaf) = true) (b_leaf : Binds K d_leaf ps_lf [])
    (G : FnOk P w K mg base CX0 k f_ex d_ex ps_ex (sp_expr K 3)) (g : mg "_law_expression" = some (.ref f_ex)) (Kf : PySem.W.keepIn K (.ref f_ex) = true) (b : Binds K d_ex ps_ex []) : FnOk P w K mg base CX0 (k + 1) f fd ps_st (sp_stmt K) := by
  have nd := sc_law_statement.nd
  refine F.ok sc_law_statement (fun vs H Q E h => ?_) (fun cdv A outer s H vs Q E hr h => ?_)
  · obtain ⟨d, c, u, sc, N, deep, ts, cs, ns, scope, rfl, _⟩ := h
    rfl
  obtain ⟨d, c, u, sc, N, deep, ts, cs, ns, scope, rfl, hdeep, D, hN, W, S, q⟩ := h
  have hu1 : (A.deeper (envOfC "_law_statement" (defScope s_law_statement) s.heap.objs.size f cdv)).units + 1 < cLine := by
    have := hr.units
    omega
  have hu : (A.deeper (envOfC "_law_statement" (defScope s_law_statement) s.heap.objs.size f cdv)).units < cLine := by omega
  refine ⟨_, (pss_cons (ps_set (i := 4) nd rfl (.inl rfl) (pe_call G_law_draw hr (by rfl) g_law_draw K_law_draw b_law_draw .nil pass0 (pa_cons (pv 0) (pa_cons pe_int pa_nil))))
      (pss_cons (ps_set (i := 5) nd rfl (.inl rfl) (pe_call G_law_pick hr (by rfl) g_law_pick K_law_pick b_law_pick .nil pass0 (pa_cons (pv 0) (pa_cons (pe_dget hu1 (pv 1) pe_str noSl_str) pa_nil))))
      (pss_cons (ps_set (i := 6) nd rfl (.inl rfl) (pe_call G_law_pick hr (by rfl) g_law_pick K_law_pick b_law_pick .nil pass0 (pa_cons (pv 0) (pa_cons (pe_dget hu1 (pv 1) pe_str noSl_str) pa_nil))))
      (Evl.pss_cut (ps_setLc (i := 7) (own := [("_law_name", 10)]) (tt := tTest (tOp (rIn K true) (tVar 10) (tVar 2))) (te := tVar 10) rfl nd rfl rfl (sw_true rfl rfl rfl (by decide +kernel)) (pi_list (pe_dget hu1 (pv 1) pe_str noSl_str)) (blkOk_by (N := N_st) (sc := defScope s_law_statement) (by decide +kernel)) (fun _ _ _ _ _ => (pg_name (i := 10) nd rfl (Or.inl rfl))) (fun _ _ _ _ _ => (pts_one (pt_cmpR op_notIn_seq (pv 10) (pv 2) (by rfl)))) (fun _ _ _ _ _ => (pv 10)))
      (Evl.pss_cut (ps_if (PW.pt (pw_and (pt_cmpR op_lt (pv 4) pe_int (nomark _)) (pw_and1 (pt_cmpR (ZE.op_neL0 hu) (pv 7) (pe_lst pa_nil) (nomark _)))))
      (pss_one (ps_ret (pe_tup (pa_cons pe_str (pa_cons (pe_ix ix_list (pv 7) pe_int (fun _ _ => rfl)) (pa_cons (pe_call G hr (by rfl) g Kf b .nil pass0 (pa_cons (pv 0) (pa_cons (pv 1) (pa_cons (pv 3) (pa_cons (pv 2) (pa_cons pe_int pa_nil)))))) pa_nil))))))
      pss_nil)
      (pss_cons (ps_if (pt_cmpR op_eq (pv 4) pe_int (nomark _))
      (pss_one (ps_ret (pe_tup (pa_cons pe_str (pa_cons (pe_tup (pa_cons pe_str (pa_cons (pe_tup (pa_cons pe_str (pa_cons (pe_op op_sub pe_int pe_int) pa_nil))) (pa_cons (pe_call G hr (by rfl) g Kf b .nil pass0 (pa_cons (pv 0) (pa_cons (pv 1) (pa_cons (pv 3) (pa_cons (pv 2) (pa_cons pe_int pa_nil)))))) pa_nil)))) pa_nil)))))
      pss_nil)
      (pss_cons (ps_if (pt_cmpR op_eq (pv 4) pe_int (nomark _))
      (pss_one (ps_ret (pe_tup (pa_cons pe_str (pa_cons (pe_call G hr (by rfl) g Kf b .nil pass0 (pa_cons (pv 0) (pa_cons (pv 1) (pa_cons (pv 3) (pa_cons (pv 2) (pa_cons pe_int pa_nil)))))) pa_nil)))))
      pss_nil)
      (pss_cons (ps_if (pt_cmpR op_lt (pv 4) pe_int (nomark _))
      (pss_cons (ps_set (i := 8) nd rfl (.inl rfl) (pe_call G hr (by rfl) g Kf b .nil pass0 (pa_cons (pv 0) (pa_cons (pv 1) (pa_cons (pv 3) (pa_cons (pv 2) (pa_cons pe_int pa_nil)))))))
        (pss_one (ps_ret (pe_tup (pa_cons pe_str (pa_cons (pv 5) (pa_cons (pv 8) (pa_cons (pv 6) (pa_cons (pe_call G hr (by rfl) g Kf b .nil pass0 (pa_cons (pv 0) (pa_cons (pv 1) (pa_cons (pv 3) (pa_cons (pv 2) (pa_cons pe_int pa_nil)))))) pa_nil)))))))))
      pss_nil)
      (pss_cons (ps_if (pt_cmpR op_lt (pv 4) pe_int (nomark _))
      (pss_one (ps_ret (pe_tup (pa_cons pe_str (pa_cons (pv 5) (pa_cons (pe_call G_leaf hr (by rfl) g_leaf K_leaf b_leaf .nil pass0 (pa_cons (pv 0) (pa_cons (pv 1) (pa_cons (pv 2) (pa_cons pe_bl pa_nil))))) (pa_cons pe_str (pa_cons (pe_tup (pa_cons pe_str (pa_cons (pe_call G_law_draw hr (by rfl) g_law_draw K_law_draw b_law_draw .nil pass0 (pa_cons (pv 0) (pa_cons pe_int pa_nil))) pa_nil))) pa_nil))))))))
      pss_nil)
      (pss_cons (ps_set (i := 9) nd rfl (.inl rfl) (pe_call G hr (by rfl) g Kf b .nil pass0 (pa_cons (pv 0) (pa_cons (pv 1) (pa_cons (pe_op op_sub (pv 3) pe_int) (pa_cons (pv 2) (pa_cons pe_int pa_nil)))))))
      (pss_one (ps_ret (pe_tup (pa_cons pe_str (pa_cons (pv 5) (pa_cons (pv 9) (pa_cons (pv 6) (pa_cons (pe_call G hr (by rfl) g Kf b .nil pass0 (pa_cons (pv 0) (pa_cons (pv 1) (pa_cons (pv 3) (pa_cons (pv 2) (pa_cons pe_int pa_nil)))))) pa_nil)))))))))))))))))), ?_⟩
  have hdx : dx 3 = 3450 + 0 := by decide
  have hem : em 3 = 5820 := by decide
  refine ⟨.ref d, rfl, d, c, N, 12, rfl, D, by omega, by decide, by decide, fun H1 way k1 D1 w0 w1 => ?_⟩
  obtain ⟨tl, cl, nl, kl, ks, W0⟩ := W
  have W1 := W0.keep k1
  refine ⟨.ref d, rfl, .ref u, rfl, u, .ref tl, rfl, ?_, .inl ⟨d, c, tl, _, _, rfl, D1, by omega, .inl (.inl W1.ht), ?_, ?_, W1.t0.1, W1.t0.2, fun H2 vt k2 D2 hvt => ?_⟩⟩
  · rw [← wD_t tl cl nl kl]
    exact DGet.k (k := .inr "tables") W1.dct
  · intro e
    have := congrArg List.length e
    rw [List.length_map, W0.lt] at this
    cases this
  · rw [List.length_map, W0.lt]
    decide
  obtain ⟨t, ht, rfl⟩ := List.mem_map.mp hvt
  have ft := Fine.str (W0.at' t ht)
  have nt := W0.at' t ht
  have k02 := k1.trans k2
  have W2 := W0.keep k02
  refine ⟨.ref d, rfl, .ref u, rfl, u, .ref cl, rfl, ?_, .inl ⟨d, c, cl, _, _, rfl, D2, by omega, .inl (.inl W2.hc), ?_, ?_, W2.c0.1, W2.c0.2, fun H3 vc k3 D3 hvc => ?_⟩⟩
  · rw [← wD_c tl cl nl kl]
    exact DGet.k (k := .inr "columns") W2.dct
  · intro e
    have := congrArg List.length e
    rw [List.length_map, W0.lc] at this
    cases this
  · rw [List.length_map, W0.lc]
    decide
  obtain ⟨z, hz, rfl⟩ := List.mem_map.mp hvc
  have fz := Fine.str (W0.ac z hz)
  have nz := W0.ac z hz
  have k03 := k02.trans k3
  have W3 := W0.keep k03
  have S3 := S.keep k03
  -- what is left
  refine ⟨fun σ' H' => ∃ (B : Addr) (y : Option V) (zs : List Str), σ' = [some (.ref d), some (.ref u), some (.ref sc), some (.int deep), some (.int way), some (.str t), some (.str z), some (.ref B), none, none, y] ∧ Same H3 H' ∧ H' B = some (.lst (zs.map V.str)) ∧ (B ≠ d ∧ B ≠ c) ∧ ∀ y, y ∈ zs → (Nm y ∧ y ∉ scope) ∧ y ∈ ns, ?_, ?_⟩
  · refine ⟨.ref u, rfl, u, .ref nl, rfl, ?_, nl, rfl, ⟨_, .inl (.inl W3.hn)⟩, fun B nB => ?_⟩
    · rw [← wD_n tl cl nl kl]
      exact DGet.k (k := .inr "names") W3.dct
    have hBd := D3.new nB
    have hBn : nl ≠ B := ne_of_none W3.hn nB
    have hBs : sc ≠ B := ne_of_none S3.at' nB
    refine lc_list (xs := ns.map V.str) (fun i H' => ∃ zs : List Str, H' B = some (.lst (zs.map V.str)) ∧ zs.length ≤ i ∧ (∀ y, y ∈ zs → (Nm y ∧ y ∉ scope) ∧ y ∈ ns) ∧ ∀ b ob, b ≠ B → H3 b = some ob → H' b = some ob) ?_ ?_ ?_ ?_
    · exact ⟨[], upd_same, Nat.le_refl _, fun v hv => (nomatch hv), fun b ob nb e => by rw [upd_ne nb]; exact e⟩
    · rintro i H' _ ⟨_, _, _, _, kk⟩
      exact .inl (.inl (kk _ _ hBn W3.hn))
    · rintro i x H4 hx ⟨zs, hB, hl4, hg, kk⟩
      rw [List.getElem?_map] at hx
      obtain ⟨y, hy, rfl⟩ := Option.map_eq_some_iff.mp hx
      have hi : i < ns.length := (List.getElem?_eq_some_iff.mp hy).1
      have hln := W0.ln
      refine ⟨rfl, .str y, rfl, .ref sc, rfl, sc, _, rfl, .inl (.inl (.inl (kk _ _ hBs S3.at'))), rfl, flat_map_str _, _, rfl, ?_⟩
      refine ite2 (fun e => ?_) (fun e => ?_)
      · refine ⟨.str y, rfl, _, hB, small1000 (by rw [List.length_map]; omega), zs ++ [y], by rw [List.map_append]; exact upd_same, by rw [List.length_append]; exact Nat.succ_le_succ hl4, fun v hv => ?_, fun b ob nb e => by rw [upd_ne nb]; exact kk b ob nb e⟩
        rcases List.mem_append.mp hv with h | h
        · exact hg v h
        · rw [List.mem_singleton.mp h]
          refine ⟨⟨W0.an y (List.mem_of_getElem? hy), fun hm => ?_⟩, List.mem_of_getElem? hy⟩
          have e2 : (!inV (.str y) (scope.map V.str)) = true := e
          rw [in_strs, decide_eq_true hm] at e2
          cases e2
      · exact ⟨zs, hB, by omega, hg, kk⟩
    · rintro H4 ⟨zs, hB, hl4, hg, kk⟩
      exact ⟨B, _, zs, rfl, fun b ob e => kk b ob (ne_of_none e nB) e, hB, hBd, hg⟩
  rintro σ' H4 ⟨B, yy, zs, rfl, s34, hB, hBd, hg⟩
  have k04 := k03.trans (Keep.of s34)
  have D4 := D3.same s34
  have W : AtW H d c u ts cs ns := ⟨tl, cl, nl, kl, ks, W0⟩
  clear W1 W2 W3 S3 D1 D2 D3 s34 k1 k2 k3 k02 k03
  have D5' := D4.mono (show N + 1 + 1 + 1 ≤ N + 3 by omega)
  clear D4
  -- a let
  refine ⟨fun σ' H' => σ' = [some (.ref d), some (.ref u), some (.ref sc), some (.int deep), some (.int way), some (.str t), some (.str z), some (.ref B), none, none, yy] ∧ Same H4 H', ?_, ?_⟩
  · refine ⟨.int way, rfl, _, _, rfl, rfl, _, rfl, ite2 (fun e1 => ⟨.ref B, rfl, Nat.zero_le _, fun l nl' => ⟨B, l, _, rfl, rfl, .inl (.inl (same_upd nl' _ _ hB)), .inl (.inl upd_same), _, rfl, ?_⟩⟩) (fun e1 => ⟨rfl, fun _ _ e => e⟩)⟩
    have sl := same_upd (o := .lst []) nl'
    refine ite2 (fun e2 => ?_) (fun e2 => ⟨rfl, sl⟩)
    obtain ⟨y, ys, rfl⟩ : ∃ y ys, zs = y :: ys := by
      cases zs with
      | nil => exact absurd e2 (by decide)
      | cons y ys => exact ⟨y, ys, rfl⟩
    have hgy := (hg y List.mem_cons_self).1
    have hyn := (hg y List.mem_cons_self).2
    have fy := Fine.str hgy.1
    have k05 := k04.trans (Keep.of sl)
    refine ⟨.ref B, rfl, B, _, 0, .str y, rfl, rfl, .inl (.inl (sl _ _ hB)), at0, .ref d, rfl, .ref u, rfl, .int deep, rfl, .ref sc, rfl, d, c, u, sc, _, deep, 0, ts, cs, ns, scope, rfl, D5'.same sl, by omega, W.keep k05, S.keep k05, by omega, by decide, by decide, fun H5 v1 x1 k5 D5 f1 c1 p1 => ⟨h1000 (show 3 ≤ 1000 by decide), fun p np => ?_⟩⟩
    rw [hem] at f1
    have s6 := same_upd (o := .tup [.str "let", .str y, v1]) np
    have F := (Fines.cons (Fine.word (w := "let") (by decide)).k0 (.cons fy.k0 (.cons f1 .nil))).tup
    exact q _ _ _ ((k05.trans k5).trans (Keep.of s6)) ((D5.same s6).mono (by omega)) ⟨p, "let", .str y, [v1], rfl, upd_same, .inl ⟨rfl, isLet_t rfl, rfl, y, v1, rfl, hgy.1, rfl⟩, new_tup (.cons (.str _) (.cons (.str _) (.cons p1 .nil))) (by simp only [flatDs, flatD, f1.flat, Bool.and_self]) np, F.mono (by omega) (by omega)⟩ (.let_ y x1 hgy.1 hgy.2 c1) (fun z' e' => by
      have e'' : some y = some z' := e'
      cases e''
      exact ⟨p, v1, rfl, upd_same⟩) (fun z' e' => by
      have e'' : some y = some z' := e'
      cases e''
      exact hyn)
  rintro σ' H6 ⟨rfl, s56⟩
  have k06 := k04.trans (Keep.of s56)
  have D6 := D5'.same s56
  have W6 := W.keep k06
  have S6 := S.keep k06
  clear hB D5' k04
  -- a need
  refine ⟨.int way, rfl, rfl, _, rfl, ite2 (fun e1 => ?_) (fun e1 => ?_)⟩
  · refine ⟨_, _, rfl, rfl, h1000 (show 2 ≤ 1000 by decide), fun a1 m1 => ?_⟩
    have t1 := same_upd (o := .tup [.str "int", .int (0 - 3)]) m1
    have b1 := new_tup (K := K) (.cons (.str "int") (.cons (.int (0 - 3)) .nil)) rfl m1
    have D7 := D6.same t1
    have k07 := k06.trans (Keep.of t1)
    refine ⟨.ref d, rfl, .ref u, rfl, .int deep, rfl, .ref sc, rfl, d, c, u, sc, _, deep, 0, ts, cs, ns, scope, rfl, D7, by omega, W.keep k07, S.keep k07, by omega, by decide, by decide, fun H5 v1 x1 k5 D5 f1 c1 p1 => ⟨h1000 (show 3 ≤ 1000 by decide), fun a2 m2 => ⟨h1000 (show 2 ≤ 1000 by decide), fun a3 m3 => ?_⟩⟩⟩
    rw [hem] at f1
    have t2 := same_upd (o := .tup [.str "<", .ref a1, v1]) m2
    have t3 := same_upd (o := .tup [.str "need", .ref a2]) m3
    have b2 := new_tup (K := K) (.cons (.str "<") (.cons (dp_keep (k5.t D7) _ _ rfl b1) (.cons p1 .nil))) (by simp only [flatDs, flatD, f1.flat, Bool.and_self]) m2
    have b3 := new_tup (K := K) (.cons (.str "need") (.cons b2 .nil)) (by simp only [flatDs, flatD, f1.flat, Bool.and_self]) m3
    have fi : Fine 1 36 (.tuple [.str "int", .int (0 - 3)]) := (tup2 (by decide) (Fine.int (by decide) (by decide)))
    have F3 := tup2 (w := "need") (by decide) (((Fines.cons (Fine.word (w := "<") (by decide)).k0 (.cons (fi.mono (show 1 ≤ 6 by decide) (Nat.le_refl _)) (.cons f1 .nil))).tup))
    exact q _ _ _ ((k07.trans k5).trans (Keep.of (t2.trans t3))) ((D5.same (t2.trans t3)).mono (by omega)) ⟨a3, "need", .ref a2, [], rfl, upd_same, .inr (.inl ⟨.inl rfl, isLet_f (by decide), colD_2 _, rfl⟩), b3, F3.mono (by decide) (by decide)⟩ (.need x1 c1) (.no (letNm_no (by decide))) (fun z e => by rw [letNm_no (by decide)] at e; cases e)
  -- a tell
  refine ⟨.int way, rfl, rfl, _, rfl, ite2 (fun e2 => ?_) (fun e2 => ?_)⟩
  · refine ⟨.ref d, rfl, .ref u, rfl, .int deep, rfl, .ref sc, rfl, d, c, u, sc, _, deep, 0, ts, cs, ns, scope, rfl, D6, by omega, W6, S6, by omega, by decide, by decide, fun H5 v1 x1 k5 D5 f1 c1 p1 => ⟨h1000 (show 2 ≤ 1000 by decide), fun a4 m4 => ?_⟩⟩
    rw [hem] at f1
    have t4 := same_upd (o := .tup [.str "tell", v1]) m4
    have b4 := new_tup (K := K) (.cons (.str "tell") (.cons p1 .nil)) (by simp only [flatDs, flatD, f1.flat, Bool.and_self]) m4
    exact q _ _ _ ((k06.trans k5).trans (Keep.of t4)) ((D5.same t4).mono (by omega)) ⟨a4, "tell", v1, [], rfl, upd_same, .inr (.inl ⟨.inr rfl, isLet_f (by decide), colD_2 _, rfl⟩), b4, (tup2 (w := "tell") (by decide) f1).mono (by decide) (by decide)⟩ (.tell x1 c1) (.no (letNm_no (by decide))) (fun z e => by rw [letNm_no (by decide)] at e; cases e)
  -- an each
  refine ⟨.int way, rfl, _, _, rfl, rfl, _, rfl, ite2 (fun e2 => ?_) (fun e2 => ?_)⟩
  · refine ⟨.ref d, rfl, .ref u, rfl, .int deep, rfl, .ref sc, rfl, d, c, u, sc, _, deep, 2, ts, cs, ns, scope, rfl, D6, by omega, W6, S6, by omega, by decide, by decide, fun H7 v2 x2 k7 D7 f2 c2 p2 => ?_⟩
    have k07 := k06.trans k7
    rw [hem] at f2
    refine ⟨.str t, rfl, v2, rfl, .str z, rfl, .ref d, rfl, .ref u, rfl, .int deep, rfl, .ref sc, rfl, d, c, u, sc, _, deep, 2, ts, cs, ns, scope, rfl, D7, by omega, W.keep k07, S.keep k07, by omega, by decide, by decide, fun H8 v3 x3 k8 D8 f3 c3 p3 => ⟨h1000 (show 5 ≤ 1000 by decide), fun p np => ?_⟩⟩
    rw [hem] at f3
    have s9 := same_upd (o := .tup [.str "each", .str t, v2, .str z, v3]) np
    have F := (Fines.cons (Fine.word (w := "each") (by decide)).k0 (.cons ft.k0 (.cons f2 (.cons fz.k0 (.cons f3 .nil))))).tup
    exact q _ _ _ ((k07.trans k8).trans (Keep.of s9)) ((D8.same s9).mono (by omega)) ⟨p, "each", .str t, [v2, .str z, v3], rfl, upd_same, .inr (.inr ⟨.inr rfl, isLet_f (by decide), t, v2, z, v3, rfl, rfl, colD_p (.inr rfl), nt, nz⟩), new_tup (.cons (.str _) (.cons (.str _) (.cons (dp_keep (k8.t D7) _ _ f2.flat p2) (.cons (.str _) (.cons p3 .nil))))) (by simp only [flatDs, flatD, f2.flat, f3.flat, Bool.and_self]) np, F.mono (by omega) (by omega)⟩ (.each t z x2 x3 ht hz c2 c3) (.no (letNm_no (by decide))) (fun z e => by rw [letNm_no (by decide)] at e; cases e)
  -- a put to in
  refine ⟨.int way, rfl, _, _, rfl, rfl, _, rfl, ite2 (fun e3 => ?_) (fun e3 => ?_)⟩
  · refine ⟨.str t, rfl, .ref d, rfl, .ref u, rfl, .ref sc, rfl, d, c, u, sc, _, false, ts, cs, ns, scope, rfl, D6, by omega, W6, S6, fun H7 v2 x2 k7 D7 f2 c2 p2 => ?_⟩
    have k07 := k06.trans k7
    refine ⟨.ref d, rfl, d, c, _, 4, rfl, D7, by omega, by decide, by decide, fun H8 r k8 D8 r0 r1 => ⟨h1000 (show 2 ≤ 1000 by decide), fun p1 np1 => ⟨h1000 (show 5 ≤ 1000 by decide), fun p np => ?_⟩⟩⟩
    have s9 := same_upd (o := .tup [.str "int", .int r]) np1
    have s10 := same_upd (o := .tup [.str "put", .str t, v2, .str "in", .ref p1]) np
    have bi := new_tup (K := K) (.cons (.str "int") (.cons (.int r) .nil)) rfl np1
    have fi : Fine 1 36 (.tuple [.str "int", .int r]) := tup2 (by decide) (Fine.int (by omega) (by omega))
    have F := (Fines.cons (Fine.word (w := "put") (by decide)).k0 (.cons ft.k0 (.cons f2 (.cons (Fine.word (w := "in") (by decide)).k0 (.cons (fi.mono (show 1 ≤ 3 by decide) (Nat.le_refl _)) .nil))))).tup
    exact q _ _ _ ((k07.trans k8).trans (Keep.of (s9.trans s10))) ((D8.same (s9.trans s10)).mono (by omega)) ⟨p, "put", .str t, [v2, .str "in", .ref p1], rfl, upd_same, .inr (.inr ⟨.inl rfl, isLet_f (by decide), t, v2, "in", .ref p1, rfl, rfl, colD_p (.inl rfl), nt, in_nm⟩), new_tup (.cons (.str _) (.cons (.str _) (.cons (dp_keep ((k8.t D7).trans (KeepT.of s9)) _ _ f2.flat p2) (.cons (.str _) (.cons bi .nil))))) (by simp only [flatDs, flatD, f2.flat, Bool.and_self]) np, F.mono (by omega) (by omega)⟩ (.put t "in" x2 _ ht (.inr rfl) ((c2 _).mono (by omega)) (.int _ _ _ (by omega) (by omega))) (.no (letNm_no (by decide))) (fun z e => by rw [letNm_no (by decide)] at e; cases e)
  -- a put
  refine ⟨.ref d, rfl, .ref u, rfl, .int deep, rfl, deep, 1, rfl, rfl, .ref sc, rfl, d, c, u, sc, _, _, 0, ts, cs, ns, scope, rfl, D6, by omega, W6, S6, by omega, by decide, by decide, fun H7 v2 x2 k7 D7 f2 c2 p2 => ?_⟩
  rw [hem] at f2
  have k07 := k06.trans k7
  refine ⟨.str t, rfl, v2, rfl, .str z, rfl, .ref d, rfl, .ref u, rfl, .int deep, rfl, .ref sc, rfl, d, c, u, sc, _, deep, 0, ts, cs, ns, scope, rfl, D7, by omega, W.keep k07, S.keep k07, by omega, by decide, by decide, fun H8 v3 x3 k8 D8 f3 c3 p3 => ⟨h1000 (show 5 ≤ 1000 by decide), fun p np => ?_⟩⟩
  rw [hem] at f3
  have s9 := same_upd (o := .tup [.str "put", .str t, v2, .str z, v3]) np
  have F := (Fines.cons (Fine.word (w := "put") (by decide)).k0 (.cons ft.k0 (.cons f2 (.cons fz.k0 (.cons f3 .nil))))).tup
  exact q _ _ _ ((k07.trans k8).trans (Keep.of s9)) ((D8.same s9).mono (by omega)) ⟨p, "put", .str t, [v2, .str z, v3], rfl, upd_same, .inr (.inr ⟨.inl rfl, isLet_f (by decide), t, v2, z, v3, rfl, rfl, colD_p (.inl rfl), nt, nz⟩), new_tup (.cons (.str _) (.cons (.str _) (.cons (dp_keep (k8.t D7) _ _ f2.flat p2) (.cons (.str _) (.cons p3 .nil))))) (by simp only [flatDs, flatD, f2.flat, f3.flat, Bool.and_self]) np, F.mono (by omega) (by omega)⟩ (.put t z x2 x3 ht (.inl hz) c2 c3) (.no (letNm_no (by decide))) (fun z e => by rw [letNm_no (by decide)] at e; cases e)
end
end L10

namespace L10
open PySem PySem.Spec PyProof.Rows L2 GR
abbrev SVs (K : PySem.W.Frag) (H : Hp) : List V → List PyData → Prop := Paired (SV K H)
theorem svs_keep {K : PySem.W.Frag} {H H' : Hp} (k : KeepT H H') : ∀ {vs : List V} {ds : List PyData}, SVs K H vs ds → SVs K H' vs ds
  | _, _, .nil => .nil
  | _, _, .cons h t => .cons (h.keep k) (svs_keep k t)
theorem svs_append {K : PySem.W.Frag} {H : Hp} : ∀ {vs us : List V} {ds es : List PyData}, SVs K H vs ds → SVs K H us es → SVs K H (vs ++ us) (ds ++ es)
  | _, _, _, _, .nil, h => h
  | _, _, _, _, .cons h t, g => .cons h (svs_append t g)
theorem svs_len {K : PySem.W.Frag} {H : Hp} {vs : List V} {ds : List PyData} (h : SVs K H vs ds) : vs.length = ds.length := Paired.length h
/-- the variables that these statements let -/
def letsD (ds : List PyData) : List Str := ds.filterMap letNm
theorem letsD_append (a b : List PyData) : letsD (a ++ b) = letsD a ++ letsD b := List.filterMap_append ..
/-- each statement sees the lets ahead of it -/
inductive Chain (ts cs : List Str) : List PyData → Prop
  | nil : Chain ts cs []
  | snoc (ds : List PyData) (x : PyData) : Chain ts cs ds → StX ts cs (letsD ds) x → Chain ts cs (ds ++ [x])
theorem StX.let' {ts cs sc : List Str} {x : PyData} (h : StX ts cs sc x) (e : isLet x = true) : ∃ z, letNm x = some z := by
  cases h with
  | let_ z x => exact ⟨z, rfl⟩
  | _ => exact absurd e (by simp only [isLet]; decide)
theorem isLet_no {x : PyData} (h : isLet x = false) : letNm x = none := by
  unfold isLet at h
  split at h
  · exact letNm_no (of_decide_eq_false h)
  · rename_i hx
    unfold letNm
    split
    · exact absurd rfl (hx _ _)
    · rfl
section
variable {P : Program} {w : World} {K : PySem.W.Frag} {mg : Str → Option Value} {base : Heap}
abbrev s_law_transaction : Stmt := topS 80
abbrev N_tr : List Str := ["_law_deck_here", "_law_world_here", "_law_most", "_law_deep", "_law_scope", "_law_found", "_law_k"]
abbrev ps_tr : List Str := ["_law_deck_here", "_law_world_here", "_law_most", "_law_deep"]
theorem sc_law_transaction : FnScope N_tr ps_tr (defScope s_law_transaction) := ⟨rfl, rfl, rfl, by decide +kernel, rfl, by decide +kernel, by decide +kernel⟩
def sp_tran (K : PySem.W.Frag) : Sp := fun vs H Q _ => ∃ (d c u : Addr) (N deep : Int) (many : Nat) (ts cs ns : List Str), vs = [.ref d, .ref u, .int (many : Int), .int deep] ∧ deep ≤ 3 ∧ many ≤ 7 ∧ Deck H d c N ∧ N < 2 ^ 52 ∧ AtW H d c u ts cs ns ∧
  ∀ H' p us ds, Keep d c H H' → Deck H' d c (N + 200000) → H' p = some (.tup us) → SVs K H' us ds → us.length ≤ 7 → Chain ts cs ds → (∀ z, z ∈ letsD ds → z ∈ ns) → Q (.ref p) H'
theorem ok_tran {f f_law_draw f_st : Addr} {fd fd_law_draw d_st : FuncData} {k : Nat} (F : Fun K "_law_transaction" "_law_transaction" s_law_transaction f fd) (G_law_draw : FnOk P w K mg base CX0 k f_law_draw fd_law_draw ["_law_deck_here", "_law_most"] sp_draw)
    (g_law_draw : mg "_law_draw" = some (.ref f_law_draw)) (K_law_draw : PySem.W.keepIn K (.ref f_law_draw) = true) (b_law_draw : Binds K fd_law_draw ["_law_deck_here", "_law_most"] [])
    (G : FnOk P w K mg base CX0 k f_st d_st ps_st (sp_stmt K)) (g : mg "_law_statement" = some (.ref f_st)) (Kf : PySem.W.keepIn K (.ref f_st) = true) (b : Binds K d_st ps_st []) (mrange : mg "range" = none) (mtuple : mg "tuple" = none) : FnOk P w K mg base CX0 (k + 1) f fd ps_tr (sp_tran K) := by
  have nd := sc_law_transaction.nd
  refine F.ok sc_law_transaction (fun vs H Q E h => ?_) (fun cdv A outer s H vs Q E hr h => ?_)
  · obtain ⟨d, c, u, N, deep, many, ts, cs, ns, rfl, _⟩ := h
    rfl
  obtain ⟨d, c, u, N, deep, many, ts, cs, ns, rfl, hdeep, hmany, D, hN, W, q⟩ := h
  refine ⟨_, (pss_cons (ps_set (i := 4) nd rfl (.inl rfl) (pe_lst pa_nil))
      (pss_cons (ps_set (i := 5) nd rfl (.inl rfl) (pe_lst pa_nil))
      (pss_cons (ps_for PassesOwn.never rfl (pi_range1 rfl mrange (pa_cons (pe_call G_law_draw hr (by rfl) g_law_draw K_law_draw b_law_draw .nil pass0 (pa_cons (pv 0) (pa_cons (pe_op op_add (pv 2) pe_int) pa_nil))) pa_nil)) (pg_name (i := 6) nd rfl (Or.inl rfl))
      (pss_cons (ps_expr (pe_bm PySem.F.plainAttrs_list PySem.F.slot_list_append PySem.F.type_list_append mt_append (pv 5) (pa_cons (pe_call G hr (by rfl) g Kf b .nil pass0 (pa_cons (pv 0) (pa_cons (pv 1) (pa_cons (pv 4) (pa_cons (pv 3) pa_nil))))) pa_nil)))
        (pss_one (ps_if (pt_cmpR op_eq (pe_ix ix_tup (pe_ix ix_list (pv 5) (pe_un un_neg pe_int) (fun _ _ => rfl)) pe_int (fun _ _ => rfl)) pe_str (nomark _))
        (pss_one (ps_expr (pe_bm PySem.F.plainAttrs_list PySem.F.slot_list_append PySem.F.type_list_append mt_append (pv 4) (pa_cons (pe_ix ix_tup (pe_ix ix_list (pv 5) (pe_un un_neg pe_int) (fun _ _ => rfl)) pe_int (fun _ _ => rfl)) pa_nil))))
        pss_nil))))
      (pss_one (ps_ret (pe_callTy call_tuple_of (by rfl) mtuple boot_tuple (pa_cons (pv 5) pa_nil))))))), ?_⟩
  refine ⟨Nat.zero_le _, fun sc nsc => ⟨Nat.zero_le _, fun fo nfo => ?_⟩⟩
  have s1 := same_upd (o := .lst []) nsc
  have s2 := same_upd (o := .lst []) nfo
  have hsc := D.new nsc
  have hfo := (D.same s1).new nfo
  have h1 := s2 _ _ (show upd H sc (.lst []) sc = _ from upd_same)
  have h2 : upd (upd H sc (.lst [])) fo (.lst []) fo = some (.lst []) := upd_same
  have nfoH : H fo = none := s1.free nfo
  have nscH := nsc
  have hsf : sc ≠ fo := ne_of_none (show upd H sc (.lst []) sc = some (.lst []) from upd_same) nfo
  have s12 := s1.trans s2
  revert h1 h2 s12
  clear s1 s2
  generalize upd (upd H sc (.lst [])) fo (.lst []) = H1
  intro h1 h2 s12
  have D1 := D.same s12
  refine ⟨.ref d, rfl, .int (many : Int), rfl, (many : Int), 1, rfl, rfl, d, c, N, (many : Int) + 1, rfl, D1, by omega, by omega, by omega, fun H2 r k2 D2 r0 r1 => ?_⟩
  obtain ⟨m, rfl⟩ := Int.eq_ofNat_of_zero_le r0
  refine ⟨(m : Int), rfl, by omega, by omega, ?_⟩
  rw [show ((m : Int)).toNat = m by omega]
  have nscH : H sc = none := nscH
  refine for_range (n := m) (fun i σ H' => ∃ (y6 : Option V) (us : List V) (ds : List PyData), σ = [some (.ref d), some (.ref u), some (.int (many : Int)), some (.int deep), some (.ref sc), some (.ref fo), y6] ∧ Keep d c H H' ∧ Deck H' d c (N + 1 + 20000 * (i : Int)) ∧ H' fo = some (.lst us) ∧ SVs K H' us ds ∧ us.length = i ∧ Scp H' d c sc (letsD ds) ∧ (letsD ds).length ≤ i ∧ (∀ z, z ∈ letsD ds → z ∈ ns) ∧ Chain ts cs ds) ?_ ?_ ?_
  · exact ⟨none, [], [], rfl, (Keep.of s12).trans k2, D2.mono (by omega), k2 _ _ hfo.1 hfo.2 h2, .nil, rfl, ⟨k2 _ _ hsc.1 hsc.2 h1, hsc, fun z hz => (nomatch hz), Nat.zero_le _⟩, Nat.zero_le _, fun z hz => (nomatch hz), .nil⟩
  · rintro i σ H3 hi ⟨y6, us, ds, rfl, k3, D3, hf, hs, hl, S, hsl, hin, hch⟩
    refine ⟨.ref fo, rfl, .inl ⟨rfl, us, .inl (.inl hf)⟩, .ref d, rfl, .ref u, rfl, .ref sc, rfl, .int deep, rfl, d, c, u, sc, _, deep, ts, cs, ns, letsD ds, rfl, hdeep, D3, by omega, W.keep k3, S, fun H4 v x k4 D4 sv sx lh hxn => ?_⟩
    have hf4 := k4 _ _ hfo.1 hfo.2 hf
    have S4 := S.keep k4
    have hs4 := svs_keep (k4.t D3) hs
    refine ⟨fo, us, v, rfl, rfl, hf4, small1000 (by omega), ?_⟩
    have kf : KeepT H4 (upd H4 fo (.lst (us ++ [v]))) := KeepT.lst hf4
    have hf5 : upd H4 fo (.lst (us ++ [v])) fo = some (.lst (us ++ [v])) := upd_same
    have hs5 := svs_append (svs_keep kf hs4) (.cons (sv.keep kf) .nil)
    have sv5 := sv.keep kf
    have lh5 := lh.keep kf
    have D5 := D4.upd (o := .lst (us ++ [v])) hfo.1 hfo.2
    have k5 : Keep d c H (upd H4 fo (.lst (us ++ [v]))) := fun b o n1 n2 e => by
      rw [upd_ne (ne_of_none e nfoH)]
      exact k4 _ _ n1 n2 (k3 _ _ n1 n2 e)
    have hsc5 : upd H4 fo (.lst (us ++ [v])) sc = some (.lst ((letsD ds).map V.str)) := by
      rw [upd_ne hsf]
      exact S4.at'
    revert hf5 hs5 sv5 lh5 D5 k5 hsc5
    generalize upd H4 fo (.lst (us ++ [v])) = H5
    intro hf5 hs5 sv5 lh5 D5 k5 hsc5
    obtain ⟨p, w', v1, vs, rfl, hp, hsf', hdp, hfin⟩ := id sv5
    have hlet := hsf'.let'
    have hch' : Chain ts cs (ds ++ [x]) := .snoc ds x hch sx
    refine ⟨.ref fo, rfl, 1, rfl, fo, _, -1, .ref p, rfl, rfl, .inl (.inl hf5), atI_last _ _, p, _, 0, .str w', rfl, rfl, .inl (.inl hp), at0, rfl, _, rfl, ite2 (fun e => ?_) (fun e => ?_)⟩
    · have ew : w' = "let" := V.str.inj (of_decide_eq_true e)
      obtain ⟨z, rfl, hz⟩ := hlet ew
      have hil : isLet x = true := by
        rcases hsf' with ⟨_, h, _⟩ | ⟨h, _⟩ | ⟨h, _⟩
        · exact h
        · rcases h with h | h <;> exact absurd (ew.symm.trans h) (by decide)
        · rcases h with h | h <;> exact absurd (ew.symm.trans h) (by decide)
      obtain ⟨z', hz'⟩ := sx.let' hil
      obtain ⟨p', e', q1, q2⟩ := lh5 z' hz'
      cases q1
      rw [hp] at q2
      have q3 : V.str z = V.str z' := (List.cons.inj (List.cons.inj (HO.tup.inj (Option.some.inj q2))).2).1
      have hml : letsD (ds ++ [x]) = letsD ds ++ [z] := by
        rw [letsD_append]
        show _ ++ [x].filterMap letNm = _
        rw [List.filterMap_cons, hz', V.str.inj q3]
        rfl
      refine ⟨.ref sc, rfl, .inl ⟨rfl, _, .inl (.inl hsc5)⟩, .ref fo, rfl, 1, rfl, fo, _, -1, .ref p, rfl, rfl, .inl (.inl hf5), atI_last _ _, p, _, 1, .str z, rfl, rfl, .inl (.inl hp), at1, sc, _, _, rfl, rfl, hsc5, ?_, ?_⟩
      · rw [List.length_map]
        exact small1000 (by omega)
      have k6 : KeepT H5 (upd H5 sc (.lst ((letsD ds).map V.str ++ [.str z]))) := KeepT.lst hsc5
      refine ⟨_, us ++ [.ref p], ds ++ [x], rfl, fun b o n1 n2 e => ?_, (D5.upd hsc.1 hsc.2).mono (by omega), ?_, svs_keep k6 hs5, by rw [List.length_append, hl]; rfl, ?_, ?_, ?_, hch'⟩
      · rw [upd_ne (ne_of_none e nscH)]
        exact k5 b o n1 n2 e
      · rw [upd_ne hsf.symm]
        exact hf5
      · rw [hml]
        refine ⟨by rw [List.map_append]; exact upd_same, hsc, fun y hy => ?_, by rw [List.length_append]; show _ + 1 ≤ 10; omega⟩
        rcases List.mem_append.mp hy with h | h
        · exact S.nm y h
        · rw [List.mem_singleton.mp h]
          exact hz
      · rw [hml, List.length_append]
        show _ + 1 ≤ _
        omega
      · rw [hml]
        intro y hy
        rcases List.mem_append.mp hy with h | h
        · exact hin y h
        · rw [List.mem_singleton.mp h, V.str.inj q3]
          exact hxn z' hz'
    · have hil : isLet x = false := by
        rcases hsf' with ⟨h, _⟩ | ⟨_, h, _⟩ | ⟨_, h, _⟩
        · exact absurd (decide_eq_true (congrArg V.str h)) e
        · exact h
        · exact h
      have hml : letsD (ds ++ [x]) = letsD ds := by
        rw [letsD_append]
        show _ ++ [x].filterMap letNm = _
        rw [List.filterMap_cons, isLet_no hil]
        exact List.append_nil _
      exact ⟨_, us ++ [.ref p], ds ++ [x], rfl, k5, D5.mono (by omega), hf5, hs5, by rw [List.length_append, hl]; rfl, by rw [hml]; exact ⟨hsc5, hsc, S.nm, S.len⟩, by rw [hml]; omega, by rw [hml]; exact hin, hch'⟩
  · rintro σ H3 ⟨y6, us, ds, rfl, k3, D3, hf, hs, hl, S, hsl, hin, hch⟩
    refine ⟨.ref fo, rfl, fo, us, rfl, .inl ⟨.inl (.inl hf), fun p np => ?_⟩⟩
    have s4 := same_upd (o := .tup us) np
    exact q _ p us ds (k3.trans (Keep.of s4)) ((D3.same s4).mono (by omega)) upd_same (svs_keep (KeepT.of s4) hs) (by omega) hch hin
end
end L10

namespace WX
open PySem PySem.Spec PySem.AutoSeq1
theorem ext_tup (l : Addr) (items : Array Value) (n : Nat) (b : Addr) (items2 : Array Value) (n2 : Nat) (dd : Option Addr) (sl : Array (Option Value)) (hs0 : ¬(!items.isEmpty && Builtin.List.listTooLong (items.size + items2.size)) = true) (hs1 : items.size ≤ sizeLine) (hs2 : items.size + items2.size ≤ sizeLine + 1) :
    Meets (Builtin.«list.extend» ⟨[.ref l, .ref b], []⟩) (fun _ R s => s.heap.get? l = some { cls := .type "list", dict := none, data := .seq items n, slots := #[] } ∧ s.heap.get? b = some { cls := .type "tuple", dict := dd, data := .seq items2 n2, slots := sl } ∧ R (.ok (.ret Value.none)) { s with heap := s.heap.update l (Obj.mapSeq fun x => x ++ items2), toks := s.toks }) := by
  refine .of_wp fun prog w A R s h => ?_
  obtain ⟨hp, g, d, tk, os⟩ := s
  obtain ⟨hl, hb, h⟩ := h
  have f1 := idx_int
  have f2 := sub_tuple_tuple
  have f3 := sub_list_list
  have f4 := sub_tuple_list
  have f5 := sub_list_tuple
  have hz' : (items ++ items2).size ≤ sizeLine + 1 := by
    rw [Array.size_append]
    exact hs2
  wp_walk using (wpAny_updateSeq hl rfl (hz := hs1) (_hz' := hz')), wpAny_loadPart' hl, wpAny_loadPart' hb
  exact ⟨_, rfl, h⟩
end WX

/-! Words that the hand layer lacks: a list extended by a tuple. -/
namespace WX
open PySem PySem.Spec PyProof.Rows L2
def rExtendT (K : PySem.W.Frag) : V → List V → Hp → VK → Prop := fun x vs H Q => ∃ (l b : Addr) (xs zs : List V), x = .ref l ∧ vs = [.ref b] ∧ H l = some (.lst xs) ∧ SqT K H b zs ∧ xs.length + zs.length ≤ sizeLine ∧ Q .non (upd H l (.lst (xs ++ zs)))
section
variable {X : Cx}
theorem mt_extendT : MtM X "list.extend" (rExtendT X.K) := by
  intro pins s σ H x vs v us Q I rx rv h
  obtain ⟨l, b, xs, zs, rfl, rfl, hH, hB, hz, q⟩ := h
  cases rx
  obtain ⟨u, rfl, ru⟩ := rv.one
  cases ru
  obtain ⟨z, its, n, r, hl, e⟩ := I.lstM hH
  obtain ⟨its2, r2, ⟨⟨c2, d2, dat2, sl2⟩, g2, hc2, n2, hd2⟩, z2⟩ := I.tuple hB
  have hc2 : c2 = .type "tuple" := hc2
  have hd2 : dat2 = .seq its2.toArray n2 := hd2
  subst hc2
  subst hd2
  have hl2 := r2.length
  have small : its.toArray.size + its2.toArray.size ≤ sizeLine := by
    rw [List.size_toArray, List.size_toArray]
    omega
  have short : ¬ (!its.toArray.isEmpty && Builtin.List.listTooLong (its.toArray.size + its2.toArray.size)) = true := by
    rw [notLongL small, Bool.and_false]
    exact Bool.false_ne_true
  refine call_meets F.slot_list_extend ⟨_, e, rfl⟩ F.entry_list_extend (F.args_list_extend_2 _ _)
    (ext_tup l its.toArray n b its2.toArray n2 d2 sl2 short (by rw [List.size_toArray]; omega) (by omega)) ⟨e, g2, ?_⟩
  refine ⟨.non, _, I.lset (its' := its ++ its2) hH e (by simp) (r.append r2) ?_, rfl, q⟩
  rw [List.length_append]
  omega
/-- a list extended by a list or by a tuple -/
def rExtendA (K : PySem.W.Frag) : V → List V → Hp → VK → Prop := fun x vs H Q => rExtend x vs H Q ∨ rExtendT K x vs H Q
theorem mt_extendA : MtM X "list.extend" (rExtendA X.K) := by
  intro pins s σ H x vs v us Q I rx rv h
  rcases h with h | h
  · exact mt_extend pins s σ H x vs v us Q I rx rv h
  · exact mt_extendT pins s σ H x vs v us Q I rx rv h
end
end WX

/-! Words that the hand layer lacks: a call by place of a def with a star; max(list of ints, default=); frozen tuples; dict(tuple of pairs). -/
namespace SC
open PySem PySem.Spec PyProof.Rows L2
section
variable {X : Cx} {CX : CXT} {k : Nat} {f : Addr} {sp : Sp} {E : XK} {x : Str} {e : Expr} {es : List Expr} {t : TA} {p pos : Pos}
theorem pe_callR (F : FnR X.prog X.w X.K X.mg X.base CX k f sp) (hr : Room k X.A) (hg : Gl X x) (hm : X.mg x = some (.ref f)) (hk : PySem.W.keepIn X.K (.ref f) = true) (hx : Passes CX X E)
    (ha : PA X (e :: es) t) (hdb : (x == ("__debug__" : Str)) = false := by decide) (he : starEach (e :: es) X.env = (false, eval e X.env) :: starEach es X.env := by rfl) (hpl : (backTo pos (starEach es X.env)).any (·.1) = false := by rfl) :
    PE X (.Call (.Name x p) (e :: es) [] pos) (tCall sp [] E t) := by
  refine ⟨fun pins s σ H Q I h => ?_⟩
  refine wpAny_Call_Name_kw (ld_glob I hg hm ?_ hdb)
  refine PySem.W.callWith_K (h₀ := X.base) I.ok.mod.kin hk (thn (ha.run pos pins s σ H _ I h) fun us s1 ⟨vs, H1, I1, r, q⟩ => ⟨I1.kIn, ?_⟩) he hpl
  have q : sp (vs ++ []) H1 Q E := q
  rw [List.append_nil] at q
  exact wpAny_call (run_fnR F hr hx I1 r q)
theorem pe_callR0 (F : FnR X.prog X.w X.K X.mg X.base CX k f sp) (hr : Room k X.A) (hg : Gl X x) (hm : X.mg x = some (.ref f)) (hk : PySem.W.keepIn X.K (.ref f) = true) (hx : Passes CX X E)
    (hdb : (x == ("__debug__" : Str)) = false := by decide) : PE X (.Call (.Name x p) [] [] pos) (tCall sp [] E tNil) := by
  refine ⟨fun pins s σ H Q I h => ?_⟩
  refine wpAny_Call_Name_kw (ld_glob I hg hm ?_ hdb)
  exact PySem.W.callWith_K0 I.kIn hk (wpAny_call (run_fnR (us := []) F hr hx I .nil h))
end
/-! ### max of a list of ints, with a default -/
def rMaxI (K : PySem.W.Frag) : List V → List V → Hp → VK → Prop := fun vs zs H Q => ∃ (a : Addr) (ns : List Int) (d : V), vs = [.ref a] ∧ zs = [d] ∧ SqL K H a (ns.map V.int) ∧ ns ≠ [] ∧ ∀ n, n ∈ ns → (∀ m, m ∈ ns → m ≤ n) → Q (.int n) H
theorem holdAll_ints {h : Heap} : ∀ {ns : List Int} {us : List Value}, Vals (ns.map V.int) us → PySem.W.HoldAll h us ns
  | [], us, r => by
    rw [List.map_nil] at r
    cases r
    exact ⟨[], .nil⟩
  | n :: ns, us, r => by
    rw [List.map_cons] at r
    cases r with
    | cons a b =>
      obtain ⟨t, rfl⟩ := a
      obtain ⟨as, ih⟩ := holdAll_ints b
      exact ⟨_, .cons (.int n t) ih⟩
theorem maxI_ge : ∀ (xs : List Int) (x : Int), x ≤ PySem.W.maxOf x xs ∧ ∀ y, y ∈ xs → y ≤ PySem.W.maxOf x xs
  | [], x => ⟨Int.le_refl _, fun y h => nomatch h⟩
  | z :: xs, x => by
    have e : PySem.W.maxOf x (z :: xs) = PySem.W.maxOf (if x < z then z else x) xs := by
      show List.foldl _ _ xs = List.foldl _ _ xs
      congr 1
      show (if decide (x < z) = true then z else x) = _
      by_cases h : x < z
      · rw [if_pos h, if_pos (decide_eq_true h)]
      · rw [if_neg h, if_neg (by simpa using h)]
    obtain ⟨h1, h2⟩ := maxI_ge xs (if x < z then z else x)
    rw [e]
    refine ⟨Int.le_trans ?_ h1, fun y hy => ?_⟩
    · split <;> omega
    · rcases List.mem_cons.mp hy with rfl | hy
      · exact Int.le_trans (by split <;> omega) h1
      · exact h2 y hy
section
variable {X : Cx}
theorem cr_maxD (hc : X.calm = true) (hu : X.A.units + 1 + 0 < cLine) : CallRK X (.builtin "max") [Str.ofString "default"] (rMaxI X.K) := by
  intro pins s σ H vs zs us ws Q I r rz h
  obtain ⟨a, ns, d, rfl, rfl, hs, h0, q⟩ := h
  obtain rfl := Vals.ref1 r
  obtain ⟨w1, rfl, e1⟩ := vals1 rz
  obtain ⟨its, rv, hl, hz⟩ := I.list hs
  refine PySem.W.max_list_datum_default (α := Int) (I.ok.hd hc) hl.isList (holdAll_ints (by simpa using rv)) hu (fun z => absurd z h0) fun y ys i v h' tk e hi hv hk => ?_
  subst e
  obtain ⟨as, hv⟩ := hv
  obtain ⟨t, rfl, _⟩ := PyProof.Rows.reads_int_inv hv
  have hm : PySem.W.maxOf y ys ∈ y :: ys := by
    have hi' : its[i]? = some (.int (PySem.W.maxOf y ys) t) := by simpa using hi
    have hlt : i < its.length := (List.getElem?_eq_some_iff.mp hi').1
    rw [← rv.length, List.length_map] at hlt
    obtain ⟨u, g1, g2⟩ := rv.get (show ((y :: ys).map V.int)[i]? = some (V.int ((y :: ys)[i])) by rw [List.getElem?_map, List.getElem?_eq_getElem hlt]; rfl)
    rw [hi'] at g1
    cases g1
    obtain ⟨t', e'⟩ := g2
    have e2 : PySem.W.maxOf y ys = (y :: ys)[i] := by injection e'
    rw [e2]
    exact List.getElem_mem hlt
  have hg := maxI_ge ys y
  exact ⟨.int _, H, I.kept (t' := tk) hk, ⟨t, rfl⟩, q _ hm fun m hm' => by
    rcases List.mem_cons.mp hm' with rfl | hm'
    · exact hg.1
    · exact hg.2 m hm'⟩
end
/-! ### tuples whose objects are known; dict of such -/
/-- a tuple of which it is known that its object holds no dict -/
def TupF (H : Hp) (a : Addr) (xs : List V) : Prop := ∃ o : Obj, H a = some (.frz o (.tup xs)) ∧ o.dict = none
theorem TupF.sq {K : PySem.W.Frag} {H : Hp} {a : Addr} {xs : List V} (h : TupF H a xs) : SqT K H a xs := let ⟨o, e, _⟩ := h; .inl (.inr ⟨o, e⟩)
section
variable {X : Cx}
theorem call_tupleF : CallR X (.type "tuple") (fun xs H Q => ∃ p ys, xs = [.ref p] ∧ SqL X.K H p ys ∧ ∀ l o, o.dict = none → H l = none → Q (.ref l) (upd H l (.frz o (.tup ys)))) := by
  intro pins s σ H xs us Q I r h
  obtain ⟨p, ys, rfl, hq, q⟩ := h
  obtain ⟨u, rfl, rx⟩ := vals1 r
  cases rx
  obtain ⟨its, r', pl, hz⟩ := I.list hq
  have hlen := r'.length
  refine call_tuple_list pl.isList (fun h' kp => ?_) (by simp only [List.size_toArray] <;> omega)
  have I1 : Inv X pins σ H { s with heap := h' } := I.kept (t' := s.toks) kp
  have I2 : Inv X pins σ (upd H h'.objs.size (.frz { cls := .type "tuple", data := .seq its.toArray } (.tup ys))) { s with heap := h'.push { cls := .type "tuple", data := .seq its.toArray } } :=
    I1.laid (t' := s.toks) (fun b o e => Heap.get?_push_of_some _ e) (Nat.le_refl _) (show ObjOk X.prog X.w _ _ _ (.frz _ (.tup ys)) from ⟨Heap.get?_push_size _ rfl, hz, its, r', IsTup.new _ _⟩)
  exact ⟨.ref h'.objs.size, _, I2, rfl, q _ _ rfl (I1.hok.fresh (Nat.le_refl _))⟩
theorem pairs_of2 {pins : List (Addr × Obj)} {σ : L2.St} {H : Hp} {s : Shared} (I : Inv X pins σ H s) : ∀ {ps : List Addr} {kvs : List (Key × V)}, Paired (fun p kv => SqT X.K H p [kV kv.1, kv.2]) ps kvs →
    ∃ (prs : List (Key × Value)) (qs : List (Value × Value)), KV kvs prs ∧ prs.length = ps.length ∧ qs.length = ps.length ∧
      (∀ (j : Nat) (u v : Value), qs[j]? = some (u, v) → ∃ (b : Addr) (k : Key), ps[j]? = some b ∧ prs[j]? = some (k, v) ∧ IsTup s.heap b #[u, v] ∧ keyIs k u = true)
  | _, _, .nil => ⟨[], [], .nil, rfl, rfl, fun j u v e => by simp at e⟩
  | _, _, .cons (a := p) (b := kv) h t => by
    obtain ⟨prs, qs, r, hl, hl2, hp⟩ := pairs_of2 I t
    obtain ⟨its, rv, ht, _⟩ := I.tuple h
    obtain ⟨u, y, ei, ru, ry⟩ := vals2 rv
    subst ei
    refine ⟨(kv.1, y) :: prs, (u, y) :: qs, .cons ⟨rfl, ry⟩ r, by rw [List.length_cons, List.length_cons, hl], by rw [List.length_cons, List.length_cons, hl2], fun j u' v' e => ?_⟩
    cases j with
    | zero =>
      have e' : (u, y) = (u', v') := Option.some.inj e
      cases e'
      exact ⟨p, kv.1, rfl, rfl, ht, kV_is (P := X.prog) (w := X.w) ru⟩
    | succ j =>
      obtain ⟨b, k, e1, e2, e3, e4⟩ := hp j u' v' (by simpa using e)
      exact ⟨b, k, by simpa using e1, by simpa using e2, e3, e4⟩
theorem call_dictT (hcalm : X.calm = true) : CallR X (.type "dict") (fun xs H Q => ∃ (a : Addr) (ps : List Addr) (kvs : List (Key × V)), xs = [.ref a] ∧ TupF H a (ps.map V.ref) ∧ Paired (fun p kv => SqT X.K H p [kV kv.1, kv.2]) ps kvs ∧
    ∀ p, H p = none → Q (.ref p) (upd H p (.dK (mergeK [] kvs)))) := by
  intro pins s σ H xs us Q I r q
  obtain ⟨a, ps, kvs, ex, ⟨o, hq, hdn⟩, hp, q⟩ := q
  subst ex
  obtain ⟨u, eu, rx⟩ := vals1 r
  subst eu
  cases rx
  obtain ⟨ho, hz, its, rv, o', ho', hc, n, hdat⟩ := I.hok _ _ hq
  rw [ho] at ho'
  cases ho'
  have ei := refs_at rv
  subst ei
  rw [List.length_map] at hz
  obtain ⟨prs, qs, rel, hl, hl2, hpr⟩ := pairs_of2 I hp
  refine PySem.call_dict_pairs (knd := mixKind X.prog X.w) (kvs := prs) (PySem.PairArg.tuple a (ps.map Value.ref).toArray (fun j => ps.getD j 0) qs) (I.ok.hd hcalm) ⟨⟨o, n, ho, hc, hdn, hdat⟩, by simp [hl2], fun j k v e => ?_⟩ ⟨by rw [hl, hl2], fun i key v e => ?_⟩ (by rw [hl2]; exact hz) fun h' tk hd' k => ?_
  · obtain ⟨b, k', e1, e2, e3, e4⟩ := hpr j k v e
    have eb : ps.getD j 0 = b := by rw [List.getD_eq_getElem?_getD, e1]; rfl
    show _ ∧ PySem.PairAt s.heap (ps.getD j 0) k v
    rw [eb]
    exact ⟨by simp [e1], .inl e3⟩
  · obtain ⟨b, k', e1, e2, e3, e4⟩ := hpr i key v e
    exact ⟨k', e2, e4⟩
  · have hm : (s.heap.objs.size == sysModules) = false := beq_eq_false_iff_ne.mpr (Nat.ne_of_gt I.big)
    have hlen : (mergeK [] kvs).length ≤ sizeLine := by
      refine Nat.le_trans (length_mergeK kvs []) ?_
      rw [List.length_nil, Nat.zero_add, rel.length, hl]
      exact hz
    exact ⟨.ref s.heap.objs.size, upd H s.heap.objs.size (.dK (mergeK [] kvs)), I.laid (t' := tk) (fun b ob e => k b ob (fun z => nomatch z) e) (Nat.le_refl _) (show ObjOk X.prog X.w _ _ _ (.dK (mergeK [] kvs)) from ⟨hlen, hm, merged [] prs, KV.merge rel .nil, hd'⟩), rfl, q _ (I.hok.fresh (Nat.le_refl _))⟩
end
end SC

namespace L10
open PySem PySem.Spec PyProof.Rows L2 GR
abbrev aggs : List (Str × Nat) := [("count", 2), ("sum", 3), ("most", 4), ("first", 3)]
abbrev opws : List Str := ["+", "-", "*", "<", "=", "at"]
/-- one that contains none -/
inductive Leaf (zs : List Str) : PyData → Prop
  | int (i : Int) : -(10 ^ 18) ≤ i → i ≤ 10 ^ 18 → Leaf zs (.tuple [.str "int", .int i])
  | let_ (i : Int) : 0 ≤ i → i ≤ 10000 → Leaf zs (.tuple [.str "let", .int i])
  | key : Leaf zs (.tuple [.str "key"])
  | var (z : Str) : z ∈ zs → Leaf zs (.tuple [.str "var", .str z])
/-- an expression of depth n at most; its names are among zs -/
inductive Ex (zs : List Str) : Nat → PyData → Prop
  | leaf (n : Nat) (x : PyData) : Leaf zs x → Ex zs (n + 1) x
  | cell (n : Nat) (t v : Str) (x : PyData) : t ∈ zs → v ∈ zs → Ex zs n x → Ex zs (n + 1) (.tuple [.str "cell", .str t, x, .str v])
  | op (n : Nat) (o : Str) (x y : PyData) : o ∈ opws → Ex zs n x → Ex zs n y → Ex zs (n + 1) (.tuple [.str o, x, y])
  | iff (n : Nat) (x y z : PyData) : Ex zs n x → Ex zs n y → Ex zs n z → Ex zs (n + 1) (.tuple [.str "if", x, y, z])
  | agg (n : Nat) (o t : Str) (xs ys : List PyData) : (o, ys.length) ∈ aggs → t ∈ zs → xs.length ≤ 2 → (∀ x, x ∈ xs → Ex zs n x) → (∀ y, y ∈ ys → Ex zs n y) → Ex zs (n + 1) (.tuple (.str o :: .str t :: .tuple xs :: ys))
theorem Ex.mono {zs : List Str} : ∀ {n m : Nat} {x : PyData}, Ex zs n x → n ≤ m → Ex zs m x := by
  intro n m x h
  induction h generalizing m with
  | leaf n x h =>
    intro hm
    obtain ⟨k, rfl⟩ : ∃ k, m = k + 1 := ⟨m - 1, by omega⟩
    exact .leaf k x h
  | cell n t v x h1 h2 h3 ih =>
    intro hm
    obtain ⟨k, rfl⟩ : ∃ k, m = k + 1 := ⟨m - 1, by omega⟩
    exact .cell k t v x h1 h2 (ih (by omega))
  | op n o x y h1 h2 h3 ih1 ih2 =>
    intro hm
    obtain ⟨k, rfl⟩ : ∃ k, m = k + 1 := ⟨m - 1, by omega⟩
    exact .op k o x y h1 (ih1 (by omega)) (ih2 (by omega))
  | iff n x y z h1 h2 h3 ih1 ih2 ih3 =>
    intro hm
    obtain ⟨k, rfl⟩ : ∃ k, m = k + 1 := ⟨m - 1, by omega⟩
    exact .iff k x y z (ih1 (by omega)) (ih2 (by omega)) (ih3 (by omega))
  | agg n o t xs ys h1 h2 h3 h4 h5 ih1 ih2 =>
    intro hm
    obtain ⟨k, rfl⟩ : ∃ k, m = k + 1 := ⟨m - 1, by omega⟩
    exact .agg k o t xs ys h1 h2 h3 (fun x hx => ih1 x hx (by omega)) (fun y hy => ih2 y hy (by omega))
theorem Ex.flat {zs : List Str} : ∀ {n : Nat} {x : PyData}, Ex zs n x → flatD x = true := by
  intro n x h
  induction h with
  | leaf n x h => cases h <;> simp only [flatD, flatDs, Bool.and_self]
  | cell n t v x h1 h2 h3 ih => simp only [flatD, flatDs, ih, Bool.and_self]
  | op n o x y h1 h2 h3 ih1 ih2 => simp only [flatD, flatDs, ih1, ih2, Bool.and_self]
  | iff n x y z h1 h2 h3 ih1 ih2 ih3 => simp only [flatD, flatDs, ih1, ih2, ih3, Bool.and_self]
  | agg n o t xs ys h1 h2 h3 h4 h5 ih1 ih2 => simp only [flatD, flatDs, flatDs_of ih1, flatDs_of ih2, Bool.and_self]
end L10

namespace L10
open PySem PySem.Spec PyProof.Rows L2 GR
/-- what stands behind each word -/
def table : List (Str × List Str) := [("int", ["value"]), ("var", ["name"]), ("key", []), ("let", ["position"]), ("cell", ["name", "free", "name"]), ("+", ["free", "free"]), ("-", ["free", "free"]), ("*", ["free", "free"]), ("<", ["free", "free"]), ("=", ["free", "free"]),
  ("if", ["free", "free", "free"]), ("at", ["free", "bound"]), ("count", ["name", "extra", "bound", "bound"]), ("sum", ["name", "extra", "bound", "bound", "bound"]), ("most", ["name", "extra", "bound", "bound", "bound", "free"]), ("first", ["name", "extra", "bound", "bound", "free"])]
def items : PyData → List PyData
  | .tuple xs => xs
  | _ => []
def pick (wanted : List Str) : List Str → List PyData → List PyData
  | f :: fs, d :: ds => (if f = "extra" then items d else if f ∈ wanted then [d] else []) ++ pick wanted fs ds
  | _, _ => []
/-- what stands behind the word fits its kinds, as far as contained_of asks -/
inductive Fits : List Str → List PyData → Prop
  | nil : Fits [] []
  | cons {f : Str} {d : PyData} {fs : List Str} {ds : List PyData} : (f = "extra" → ∃ xs, d = .tuple xs) → Fits fs ds → Fits (f :: fs) (d :: ds)
/-- the form of an expression -/
def Form (x : PyData) (w : Str) (fs : List Str) (rest : List PyData) : Prop := x = .tuple (.str w :: rest) ∧ (w, fs) ∈ table ∧ Fits fs rest
theorem fit1 {f : Str} {d : PyData} {fs : List Str} {ds : List PyData} (h : f ≠ "extra") (t : Fits fs ds) : Fits (f :: fs) (d :: ds) := .cons (fun e => absurd e h) t
theorem Ex.form {zs : List Str} {n : Nat} {x : PyData} (h : Ex zs n x) : ∃ w fs rest, Form x w fs rest := by
  cases h with
  | leaf n x h =>
    cases h with
    | int i _ _ => exact ⟨"int", ["value"], _, rfl, by decide, fit1 (by decide) .nil⟩
    | let_ i _ _ => exact ⟨"let", ["position"], _, rfl, by decide, fit1 (by decide) .nil⟩
    | key => exact ⟨"key", [], _, rfl, by decide, .nil⟩
    | var z _ => exact ⟨"var", ["name"], _, rfl, by decide, fit1 (by decide) .nil⟩
  | cell n t v x h1 h2 h3 => exact ⟨"cell", ["name", "free", "name"], _, rfl, by decide, fit1 (by decide) (fit1 (by decide) (fit1 (by decide) .nil))⟩
  | op n o x y h1 h2 h3 =>
    simp only [opws, List.mem_cons, List.not_mem_nil, or_false] at h1
    rcases h1 with rfl | rfl | rfl | rfl | rfl | rfl
    · exact ⟨_, ["free", "free"], _, rfl, by decide, fit1 (by decide) (fit1 (by decide) .nil)⟩
    · exact ⟨_, ["free", "free"], _, rfl, by decide, fit1 (by decide) (fit1 (by decide) .nil)⟩
    · exact ⟨_, ["free", "free"], _, rfl, by decide, fit1 (by decide) (fit1 (by decide) .nil)⟩
    · exact ⟨_, ["free", "free"], _, rfl, by decide, fit1 (by decide) (fit1 (by decide) .nil)⟩
    · exact ⟨_, ["free", "free"], _, rfl, by decide, fit1 (by decide) (fit1 (by decide) .nil)⟩
    · exact ⟨_, ["free", "bound"], _, rfl, by decide, fit1 (by decide) (fit1 (by decide) .nil)⟩
  | iff n x y z h1 h2 h3 => exact ⟨"if", ["free", "free", "free"], _, rfl, by decide, fit1 (by decide) (fit1 (by decide) (fit1 (by decide) .nil))⟩
  | agg n o t xs ys h1 h2 h3 h4 h5 =>
    have tl : ∀ d : PyData, (("extra" : Str) = "extra" → ∃ us, d = .tuple us) ∨ True := fun _ => .inr trivial
    simp only [aggs, List.mem_cons, List.not_mem_nil, or_false, Prod.mk.injEq] at h1
    rcases h1 with ⟨rfl, h⟩ | ⟨rfl, h⟩ | ⟨rfl, h⟩ | ⟨rfl, h⟩
    · match ys, h with
      | [_, _], _ => exact ⟨_, ["name", "extra", "bound", "bound"], _, rfl, by decide, fit1 (by decide) (.cons (fun _ => ⟨xs, rfl⟩) (fit1 (by decide) (fit1 (by decide) .nil)))⟩
    · match ys, h with
      | [_, _, _], _ => exact ⟨_, ["name", "extra", "bound", "bound", "bound"], _, rfl, by decide, fit1 (by decide) (.cons (fun _ => ⟨xs, rfl⟩) (fit1 (by decide) (fit1 (by decide) (fit1 (by decide) .nil))))⟩
    · match ys, h with
      | [_, _, _, _], _ => exact ⟨_, ["name", "extra", "bound", "bound", "bound", "free"], _, rfl, by decide, fit1 (by decide) (.cons (fun _ => ⟨xs, rfl⟩) (fit1 (by decide) (fit1 (by decide) (fit1 (by decide) (fit1 (by decide) .nil)))))⟩
    · match ys, h with
      | [_, _, _], _ => exact ⟨_, ["name", "extra", "bound", "bound", "free"], _, rfl, by decide, fit1 (by decide) (.cons (fun _ => ⟨xs, rfl⟩) (fit1 (by decide) (fit1 (by decide) (fit1 (by decide) .nil))))⟩
/-- the written table at fA -/
def Flds (K : PySem.W.Frag) (w : World) (fA : Addr) : Prop := ∀ wd fs, (wd, fs) ∈ table → ∃ p, KDct K w fA wd (.ref p) ∧ ∀ H, SqT K H p (fs.map V.str)
end L10
namespace L10
open PySem PySem.Spec PyProof.Rows L2 GR
/-- what one field gives -/
def pick1 (wanted : List Str) (f : Str) (d : PyData) : List PyData := if f = "extra" then items d else if f ∈ wanted then [d] else []
theorem pick_take (W : List Str) : ∀ {fs : List Str} {ds : List PyData} (i : Nat) {f : Str} {d : PyData}, fs[i]? = some f → ds[i]? = some d → pick W (fs.take (i + 1)) (ds.take (i + 1)) = pick W (fs.take i) (ds.take i) ++ pick1 W f d
  | f0 :: fs, d0 :: ds, 0, f, d, hf, hd => by
    cases hf
    cases hd
    simp only [List.take_succ_cons, List.take_zero, pick, pick1, List.append_nil, List.nil_append]
  | f0 :: fs, d0 :: ds, i + 1, f, d, hf, hd => by
    rw [List.getElem?_cons_succ] at hf hd
    have := pick_take W i hf hd
    simp only [List.take_succ_cons, pick]
    rw [this, List.append_assoc]
  | [], _, _, _, _, hf, _ => by simp at hf
  | _ :: _, [], _, _, _, _, hd => by simp at hd
theorem pick_len (W : List Str) : ∀ {fs : List Str} {ds : List PyData} (i : Nat), (pick W (fs.take i) (ds.take i)).length ≤ (pick W fs ds).length
  | f0 :: fs, d0 :: ds, 0 => by simp only [List.take_zero, pick]; exact Nat.zero_le _
  | f0 :: fs, d0 :: ds, i + 1 => by
    have := pick_len W (fs := fs) (ds := ds) i
    simp only [List.take_succ_cons, pick, List.length_append]
    omega
  | [], ds, i => by simp only [List.take_nil, pick]; exact Nat.zero_le _
  | f0 :: fs, [], i => by
    simp only [List.take_nil]
    cases fs.take i <;> cases i <;> simp [pick]
theorem flatDs_at : ∀ {ds : List PyData} {i : Nat} {d : PyData}, flatDs ds = true → ds[i]? = some d → flatD d = true
  | d0 :: ds, 0, d, h, e => by
    cases e
    rw [flatDs, Bool.and_eq_true] at h
    exact h.1
  | d0 :: ds, i + 1, d, h, e => by
    rw [flatDs, Bool.and_eq_true] at h
    rw [List.getElem?_cons_succ] at e
    exact flatDs_at h.2 e
  | [], _, _, _, e => by simp at e
theorem flat_pick1 {W : List Str} {f : Str} {d : PyData} (h : flatD d = true) : flatDs (pick1 W f d) = true := by
  unfold pick1
  split
  · cases d <;> simp only [items, flatDs]
    rw [flatD] at h
    exact h
  · split
    · rw [flatDs, h, flatDs]
      rfl
    · rw [flatDs]
theorem flat_pick {W : List Str} : ∀ {fs : List Str} {ds : List PyData}, flatDs ds = true → flatDs (pick W fs ds) = true
  | f :: fs, d :: ds, h => by
    rw [flatDs, Bool.and_eq_true] at h
    exact flatDs_append (flat_pick1 (W := W) (f := f) h.1) (flat_pick h.2)
  | [], _, _ => by simp only [pick, flatDs]
  | _ :: _, [], _ => by simp only [pick, flatDs]
theorem flatDs_take {ds : List PyData} (i : Nat) (h : flatDs ds = true) : flatDs (ds.take i) = true := by
  induction ds generalizing i with
  | nil => simp only [List.take_nil, flatDs]
  | cons d ds ih =>
    rw [flatDs, Bool.and_eq_true] at h
    cases i with
    | zero => simp only [List.take_zero, flatDs]
    | succ i =>
      rw [List.take_succ_cons, flatDs, h.1, ih i h.2]
      rfl
theorem Fits.len {fs : List Str} {ds : List PyData} (h : Fits fs ds) : fs.length = ds.length := by
  induction h with
  | nil => rfl
  | cons _ _ ih => rw [List.length_cons, List.length_cons, ih]
theorem Fits.at' {fs : List Str} {ds : List PyData} (h : Fits fs ds) : ∀ {i : Nat} {d : PyData}, fs[i]? = some ("extra" : Str) → ds[i]? = some d → ∃ xs, d = .tuple xs := by
  induction h with
  | nil =>
    intro i d e
    simp at e
  | cons h1 h2 ih =>
    intro i d e1 e2
    cases i with
    | zero =>
      simp only [List.getElem?_cons_zero, Option.some.injEq] at e1 e2
      obtain ⟨xs, rfl⟩ := h1 e1
      exact ⟨xs, e2.symm⟩
    | succ i =>
      rw [List.getElem?_cons_succ] at e1 e2
      exact ih e1 e2
end L10

/-! Data of all kinds, dicts too, in the abstract heap; ok tells which addresses its lists and dicts may have. -/
namespace AD
open PySem PySem.Spec PyProof.Rows L2 GR
def keyD : Key → PyData
  | .inl i => .int i
  | .inr x => .str x
mutual
inductive Dd (K : PySem.W.Frag) (ok : Addr → Prop) (H : Hp) : V → PyData → Prop
  | non : Dd K ok H .non .none
  | bl (b : Bool) : Dd K ok H (.bl b) (.bool b)
  | int (i : Int) : Dd K ok H (.int i) (.int i)
  | str (x : Str) : Dd K ok H (.str x) (.str x)
  | lst {a : Addr} {xs : List V} {ds : List PyData} : H a = some (.lst xs) → ok a → DdAll K ok H xs ds → Dd K ok H (.ref a) (.list ds)
  | tup {a : Addr} {xs : List V} {ds : List PyData} : SqT K H a xs → DdAll K ok H xs ds → Dd K ok H (.ref a) (.tuple ds)
  | dk {a : Addr} {kvs : List (Key × V)} {ds : List PyData} : H a = some (.dK kvs) → ok a → DdAll K ok H (kvs.map (·.2)) ds → Dd K ok H (.ref a) (.dict ((kvs.map fun p => keyD p.1).zip ds))
inductive DdAll (K : PySem.W.Frag) (ok : Addr → Prop) (H : Hp) : List V → List PyData → Prop
  | nil : DdAll K ok H [] []
  | cons {v : V} {vs : List V} {d : PyData} {ds : List PyData} : Dd K ok H v d → DdAll K ok H vs ds → DdAll K ok H (v :: vs) (d :: ds)
end
/-- tuples stay, and what lies where ok allows it -/
structure KeepO (ok : Addr → Prop) (H H' : Hp) : Prop where
  tup : ∀ b xs, H b = some (.tup xs) → H' b = some (.tup xs)
  frz : ∀ b o xs, H b = some (.frz o (.tup xs)) → H' b = some (.frz o (.tup xs))
  oth : ∀ b o, ok b → H b = some o → H' b = some o
theorem KeepO.of {ok : Addr → Prop} {H H' : Hp} (s : Same H H') : KeepO ok H H' := ⟨fun b _ e => s b _ e, fun b _ _ e => s b _ e, fun b _ _ e => s b _ e⟩
theorem KeepO.trans {ok : Addr → Prop} {H H1 H2 : Hp} (a : KeepO ok H H1) (b : KeepO ok H1 H2) : KeepO ok H H2 := ⟨fun x _ e => b.tup x _ (a.tup x _ e), fun x _ _ e => b.frz x _ _ (a.frz x _ _ e), fun x o h e => b.oth x o h (a.oth x o h e)⟩
theorem KeepO.seqt {ok : Addr → Prop} {K : PySem.W.Frag} {H H' : Hp} (s : KeepO ok H H') {a : Addr} {xs : List V} (h : SqT K H a xs) : SqT K H' a xs := by
  rcases h with (h | ⟨o, h⟩) | h
  · exact .inl (.inl (s.tup _ _ h))
  · exact .inl (.inr ⟨o, s.frz _ _ _ h⟩)
  · exact .inr h
section
variable {K : PySem.W.Frag} {ok ok' : Addr → Prop} {H H' : Hp}
mutual
theorem Dd.keep (k : KeepO ok H H') : ∀ {v : V} {d : PyData}, Dd K ok H v d → Dd K ok H' v d
  | _, _, .non => .non
  | _, _, .bl b => .bl b
  | _, _, .int i => .int i
  | _, _, .str x => .str x
  | _, _, .lst h o q => .lst (k.oth _ _ o h) o (DdAll.keep k q)
  | _, _, .tup h q => .tup (k.seqt h) (DdAll.keep k q)
  | _, _, .dk h o q => .dk (k.oth _ _ o h) o (DdAll.keep k q)
theorem DdAll.keep (k : KeepO ok H H') : ∀ {vs : List V} {ds : List PyData}, DdAll K ok H vs ds → DdAll K ok H' vs ds
  | _, _, .nil => .nil
  | _, _, .cons h q => .cons (Dd.keep k h) (DdAll.keep k q)
end
mutual
theorem Dd.mono (k : ∀ a, ok a → ok' a) : ∀ {v : V} {d : PyData}, Dd K ok H v d → Dd K ok' H v d
  | _, _, .non => .non
  | _, _, .bl b => .bl b
  | _, _, .int i => .int i
  | _, _, .str x => .str x
  | _, _, .lst h o q => .lst h (k _ o) (DdAll.mono k q)
  | _, _, .tup h q => .tup h (DdAll.mono k q)
  | _, _, .dk h o q => .dk h (k _ o) (DdAll.mono k q)
theorem DdAll.mono (k : ∀ a, ok a → ok' a) : ∀ {vs : List V} {ds : List PyData}, DdAll K ok H vs ds → DdAll K ok' H vs ds
  | _, _, .nil => .nil
  | _, _, .cons h q => .cons (Dd.mono k h) (DdAll.mono k q)
end
theorem DdAll.len : ∀ {vs : List V} {ds : List PyData}, DdAll K ok H vs ds → vs.length = ds.length
  | _, _, .nil => rfl
  | _, _, .cons _ q => by rw [List.length_cons, List.length_cons, DdAll.len q]
end
/-- the entries of a dict, its keys read -/
theorem keys_read {P : Program} {w : World} {h : Heap} {es : List DictEntry} {vs : List (Key × Value)} (p : PySem.Pairs (mixKind P w) es vs) : ReadsAll h (es.map (·.key)) (vs.map fun q => keyD q.1) [] := by
  induction p with
  | nil => exact .nil
  | @cons e kv es kvs h1 _ _ ih =>
    rw [List.map_cons, List.map_cons]
    rcases keyIs_shape h1 with ⟨i, t, e1, e2⟩ | ⟨x, t, e1, e2⟩
    · rw [e1, e2]
      exact .cons (.int i t) ih
    · rw [e1, e2]
      exact .cons (.str x t) ih
theorem pairs_val {P : Program} {w : World} {es : List DictEntry} {vs : List (Key × Value)} (p : PySem.Pairs (mixKind P w) es vs) : es.map (·.val) = vs.map (·.2) := by
  induction p with
  | nil => rfl
  | cons _ h2 _ ih => rw [List.map_cons, List.map_cons, h2, ih]
theorem kv_keys {kvs : List (Key × V)} {vs : List (Key × Value)} (r : KV kvs vs) : vs.map (fun q => keyD q.1) = kvs.map fun q => keyD q.1 := by
  induction r with
  | nil => rfl
  | cons h _ ih => rw [List.map_cons, List.map_cons, ih, h.1]
theorem kv_vals {kvs : List (Key × V)} {vs : List (Key × Value)} (r : KV kvs vs) : Vals (kvs.map (·.2)) (vs.map (·.2)) := by
  induction r with
  | nil => exact .nil
  | cons h _ ih => exact .cons h.2 ih
section
variable {X : Cx} {pins : List (Addr × Obj)} {σ : L2.St} {H : Hp} {s : Shared} {ok : Addr → Prop}
mutual
theorem Dd.reads (I : Inv X pins σ H s) (hok : ∀ a, ok a → a ≠ sysModules) : ∀ {v : V} {d : PyData}, Dd X.K ok H v d → ∀ u, RelV v u → ∃ as, Reads s.heap u d as ∧ sysModules ∉ as
  | _, _, .non, _, r => by
    cases r
    exact ⟨_, .none, List.not_mem_nil⟩
  | _, _, .bl b, _, r => by
    cases r
    exact ⟨_, .bool b, List.not_mem_nil⟩
  | _, _, .int i, _, r => by
    obtain ⟨t, rfl⟩ := r
    exact ⟨_, .int i t, List.not_mem_nil⟩
  | _, _, .str x, _, r => by
    obtain ⟨t, rfl⟩ := r
    exact ⟨_, .str x t, List.not_mem_nil⟩
  | _, _, .lst hs o q, _, r => by
    cases r
    obtain ⟨its, rv, ⟨ob, n, ho, hc, _, hd⟩, _⟩ := I.list (.inl (.inl hs))
    obtain ⟨as, hr, hn⟩ := DdAll.reads I hok q its rv
    exact ⟨_, .list ho hc hd hr, fun z => (List.mem_cons.mp z).elim (fun e => hok _ o e.symm) hn⟩
  | _, _, .tup hs q, _, r => by
    cases r
    obtain ⟨its, rv, ⟨ob, ho, hc, n, hd⟩, _⟩ := I.tuple hs
    obtain ⟨as, hr, hn⟩ := DdAll.reads I hok q its rv
    exact ⟨_, .tuple ho hc hd hr, hn⟩
  | _, _, .dk (kvs := kvs) (ds := ds) hs o q, _, r => by
    cases r
    obtain ⟨_, hsys, vs, rk, ob, es, ep, ho, hex, hd, _, hp, _⟩ := I.hok _ _ hs
    obtain ⟨as, hr, hn⟩ := DdAll.reads I hok q _ (kv_vals rk)
    have hk := keys_read (h := s.heap) hp
    have hv := pairs_val hp
    have hl := q.len
    rw [List.length_map] at hl
    rw [kv_keys rk] at hk
    rw [← hv] at hr
    refine ⟨_, .dict (kvs := (kvs.map fun p => keyD p.1).zip ds) ho hex.1 hd (as := []) (bs := as) ?_ ?_, fun z => ?_⟩
    · rw [List.map_fst_zip (by rw [List.length_map]; omega)]
      exact hk
    · rw [List.map_snd_zip (by rw [List.length_map]; omega)]
      exact hr
    · rcases List.mem_append.mp z with z | z
      · exact hok _ o (List.mem_singleton.mp z).symm
      · exact hn z
theorem DdAll.reads (I : Inv X pins σ H s) (hok : ∀ a, ok a → a ≠ sysModules) : ∀ {vs : List V} {ds : List PyData}, DdAll X.K ok H vs ds → ∀ us, Vals vs us → ∃ as, ReadsAll s.heap us ds as ∧ sysModules ∉ as
  | _, _, .nil, _, r => by
    cases r
    exact ⟨_, .nil, List.not_mem_nil⟩
  | _, _, .cons h q, _, r => by
    cases r with
    | cons r1 r2 =>
      obtain ⟨as, q1, n1⟩ := Dd.reads I hok h _ r1
      obtain ⟨bs, q2, n2⟩ := DdAll.reads I hok q _ r2
      exact ⟨_, .cons q1 q2, fun z => (List.mem_append.mp z).elim n1 n2⟩
end
/-- what is shown fits -/
structure Shw (d : PyData) : Prop where
  shw : d.showable = true
  dep : d.depth ≤ 60
  len : d.shown.length ≤ sizeLine
/-- repr of anything -/
def rReprA (X : Cx) : List V → Hp → VK → Prop := fun xs H Q => ∃ (v : V) (d : PyData) (ok : Addr → Prop), xs = [v] ∧ (∀ a, ok a → a ≠ sysModules) ∧ Dd X.K ok H v d ∧ Shw d ∧ Q (.str d.shown) H
theorem call_reprA {k : Nat} (hg : X.A.guards = some []) (hr : Room k X.A) : CallR X (.builtin "repr") (rReprA X) := by
  intro pins s σ H xs us Q I r h
  obtain ⟨v, d, ok, rfl, hok, hd, ⟨h1, h2, h3⟩, q⟩ := h
  obtain ⟨u, rfl, rv⟩ := vals1 r
  obtain ⟨as, hR, hn⟩ := Dd.reads I hok hd u rv
  have hu := hr.units
  have big : ∀ a, u = .ref a → wpAny (model X.prog X.w) X.A (call (.builtin "repr") [.ref a]) (EP X pins σ Q) X.xe s := fun a e => by
    rw [e] at hR
    exact repr_of_reads' hR h1 (fun _ => hn) hg (by omega) (fun _ _ e => e) (fun h' u tk hk => ⟨.str d.shown, H, I.kept hk, ⟨_, rfl⟩, q⟩) h3
  cases hd with
  | non =>
    cases rv
    rw [PyData.shown_none] at q
    exact PySem.P.repr_of_none ⟨.str _, H, I.tok _, ⟨_, rfl⟩, q⟩
  | bl b =>
    cases rv
    rw [PyData.shown_bool] at q
    exact P.repr_of_bool ⟨.str _, H, I.kept fun _ _ e => e, ⟨_, rfl⟩, q⟩
  | int i =>
    obtain ⟨t, rfl⟩ := rv
    rw [PyData.shown_int] at q
    exact PySem.P.repr_of_int (by simpa [PyData.showable] using h1) ⟨.str _, H, I.tok _, ⟨_, rfl⟩, q⟩
  | str x =>
    obtain ⟨t, rfl⟩ := rv
    rw [PyData.shown_str] at q h3
    exact P.repr_of_str ⟨.str _, H, I.tok _, ⟨_, rfl⟩, q⟩ h3
  | lst _ _ _ =>
    cases rv
    exact big _ rfl
  | tup _ _ =>
    cases rv
    exact big _ rfl
  | dk _ _ _ =>
    cases rv
    exact big _ rfl
/-- str of a list, a tuple, a dict -/
def rStrA (X : Cx) : List V → Hp → VK → Prop := fun xs H Q => ∃ (a : Addr) (d : PyData) (ok : Addr → Prop), xs = [.ref a] ∧ (∀ a, ok a → a ≠ sysModules) ∧ Dd X.K ok H (.ref a) d ∧ Shw d ∧ Q (.str d.shown) H
theorem call_strA {k : Nat} (hg : X.A.guards = some []) (hr : Room k X.A) : CallR X (.type "str") (rStrA X) := by
  intro pins s σ H xs us Q I r h
  obtain ⟨a, d, ok, rfl, hok, hd, ⟨h1, h2, h3⟩, q⟩ := h
  obtain ⟨u, rfl, rv⟩ := vals1 r
  obtain rfl : u = Value.ref a := rv
  obtain ⟨as, hR, hn⟩ := Dd.reads I hok hd _ rfl
  have hu := hr.units
  exact str_of_reads hR h1 (fun _ => hn) hg (by omega) (fun _ _ e => e) (fun h' u tk hk => ⟨.str d.shown, H, I.kept hk, ⟨_, rfl⟩, q⟩) h3
/-- the class's name -/
def tyN : PyData → String
  | .none => "NoneType"
  | .bool _ => "bool"
  | .int _ => "int"
  | .str _ => "str"
  | .list _ => "list"
  | .tuple _ => "tuple"
  | .dict _ => "dict"
theorem Dd.ty {K : PySem.W.Frag} {v : V} {d : PyData} (h : Dd K ok H v d) : TyX K H v (.type (tyN d)) := by
  cases h with
  | non => exact .base .non
  | bl b => exact .base (.bl b)
  | int i => exact .base (.int i)
  | str x => exact .base (.str x)
  | lst h _ _ => exact .base (.lst h)
  | tup h _ =>
    rcases h with (h | ⟨o, h⟩) | ⟨o, its, n, h1, h2, _⟩
    · exact .base (.tup h)
    · exact .fTuple h
    · exact .kTuple h1 h2
  | dk h _ _ => exact .base (.dK h)
/-- == of anything but dicts -/
def rEqA (X : Cx) : R2 := fun x y H Q => ∃ (d e : PyData) (ok : Addr → Prop), (∀ a, ok a → a ≠ sysModules) ∧ Dd X.K ok H x d ∧ Dd X.K ok H y e ∧ SeqAt.shaped d = true ∧ SeqAt.shaped e = true ∧ Q (.bl (PyData.eqv d e)) H
theorem op_eqA (hu : X.A.units + 64 < cLine) : OpR X (compareOp .Eq) (rEqA X) := by
  intro pins s σ H x y v u Q I rx ry h
  obtain ⟨d, e, ok, hok, hd, he, sd, se, q⟩ := h
  obtain ⟨as, r1, _⟩ := Dd.reads I hok hd v rx
  obtain ⟨bs, r2, _⟩ := Dd.reads I hok he u ry
  exact SeqAt.compareEq_shaped r1 r2 sd se hu ⟨.bl _, H, I, rfl, q⟩
/-- in, not in, of anything but dicts, in a tuple of such -/
def rInA (X : Cx) (neg : Bool) : R2 := fun x y H Q => ∃ (d : PyData) (ds : List PyData) (ok : Addr → Prop), (∀ a, ok a → a ≠ sysModules) ∧ Dd X.K ok H x d ∧ Dd X.K ok H y (.tuple ds) ∧ SeqAt.shaped d = true ∧ SeqAt.shaped (.tuple ds) = true ∧ Q (.bl (if neg then !ds.any (fun z => PyData.eqv z d) else ds.any fun z => PyData.eqv z d)) H
theorem op_inA (hu : X.A.units + 65 < cLine) : OpR X (compareOp .In) (rInA X false) := by
  intro pins s σ H x y v u Q I rx ry h
  obtain ⟨d, ds, ok, hok, hd, he, sd, se, q⟩ := h
  obtain ⟨as, r1, _⟩ := Dd.reads I hok hd v rx
  obtain ⟨bs, r2, _⟩ := Dd.reads I hok he u ry
  exact SeqAt.in_tuple_reads r2 r1 (SeqAt.canLay_of_shaped se) (SeqAt.canLay_of_shaped sd) (room_in_shaped sd hu) ⟨.bl _, H, I, rfl, q⟩
theorem op_notInA (hu : X.A.units + 65 < cLine) : OpR X (compareOp .NotIn) (rInA X true) := by
  intro pins s σ H x y v u Q I rx ry h
  obtain ⟨d, ds, ok, hok, hd, he, sd, se, q⟩ := h
  obtain ⟨as, r1, _⟩ := Dd.reads I hok hd v rx
  obtain ⟨bs, r2, _⟩ := Dd.reads I hok he u ry
  exact SeqAt.notIn_tuple_reads r2 r1 (SeqAt.canLay_of_shaped se) (SeqAt.canLay_of_shaped sd) (room_in_shaped sd hu) ⟨.bl _, H, I, rfl, q⟩
/-- [e, ..]: a new list, not where the modules are -/
def tLstS (t : TA) : TE := fun σ H Q => t σ H fun xs H1 => xs.length ≤ sizeLine ∧ ∀ p, H1 p = none → p ≠ sysModules → Q (.ref p) (upd H1 p (.lst xs))
theorem pe_lstS {es : List Expr} {pos : Pos} {t : TA} (h : PA X es t) : PE X (.List es pos) (tLstS t) := by
  constructor
  intro pins s σ H Q I hq
  refine wpAny_List_spliced (thn (h.run pos pins s σ H _ I hq) ?_)
  rintro us s1 ⟨xs, H1, I1, r, z, q⟩
  refine ⟨by rw [← r.length]; exact z, ?_⟩
  have new := I1.hok.fresh (Nat.le_refl s1.heap.objs.size)
  have far : s1.heap.objs.size ≠ sysModules := (Nat.ne_of_lt I1.big).symm
  refine ⟨.ref s1.heap.objs.size, _, I1.laid (t' := s1.toks) (o := .lst xs) (fun b u e => Heap.get?_push_of_some _ e) (Nat.le_refl _) ⟨z, us, 0, r, Heap.get?_push_size _ rfl⟩, rfl, q _ new far⟩
/-- a dict does not lie where the modules are -/
def tSys (t : TE) : TE := fun σ H Q => t σ H fun v H' => (∀ a kvs, H' a = some (.dK kvs) → a ≠ sysModules) → Q v H'
theorem pe_sys {e : Expr} {t : TE} (h : PE X e t) : PE X e (tSys t) := by
  constructor
  intro pins s σ H Q I hq
  refine thn (h.run pins s σ H _ I hq) ?_
  rintro u s1 ⟨v, H1, I1, r, q⟩
  exact ⟨v, H1, I1, r, q fun a kvs e => fun z => by
    have := (I1.hok a _ e).2.1
    rw [z] at this
    exact absurd this (by decide)⟩
end
end AD

/-! d.get(y) of a written dict of texts, y a text (there or not) or None. -/
namespace FG
open PySem PySem.Spec PyProof.Rows L2 GR
/-- what the dict at p says of y -/
def Says (es : Array DictEntry) (y r : V) : Prop := (y = .non ∧ r = .non) ∨ ∃ z, y = .str z ∧ ((∃ u, findBy Value.isStrOf es z = some u ∧ RelV r u) ∨ (findBy Value.isStrOf es z = none ∧ r = .non))
def tKGet (K : PySem.W.Frag) (w : World) (td ty : TE) : TE := fun σ H Q => td σ H fun x H1 => ∃ (p : Addr) (es : Array DictEntry) (n : Nat), x = .ref p ∧ K.lookup p = some ⟨.type "dict", none, .dict es n, #[]⟩ ∧ PySem.W.KeysLit w.params es.toList ∧ (p == sysModules) = false ∧
  ty σ H1 fun y H2 => ∃ r, Says es y r ∧ Q r H2
/-- None is no key of it -/
theorem none_at {P : Program} {w : World} {h : Heap} {p : Addr} {es : Array DictEntry} {n : Nat} (hp : h.get? p = some ⟨.type "dict", none, .dict es n, #[]⟩) (hk : PySem.W.KeysLit w.params es.toList) : ∃ f, h.MapOf (noneKind P w) p f ∧ f none = none := by
  refine ⟨fun k => findBy (noneKind P w).is es k, ⟨_, es, n, hp, ⟨rfl, rfl, rfl⟩, rfl, fun e he => ?_, fun _ => rfl⟩, ?_⟩
  · obtain ⟨x, t, e1, e2⟩ := hk.all e (Array.mem_toList_iff.mpr he)
    exact ⟨some (.inr x), by rw [e1]; show keyIs (.inr x) (.str x t) = true; simp only [keyIs, PySem.W.isStr_of]; show (x == x) = true; exact beq_self_eq_true x, e2⟩
  · have q : (es.find? fun e => nkIs none e.key) = none := by
      rw [Array.find?_eq_none]
      intro e he hq
      obtain ⟨x, t, e1, _⟩ := hk.all e (Array.mem_toList_iff.mpr he)
      rw [e1] at hq
      exact absurd (nk_none hq) (fun z => nomatch z)
    show (es.find? fun e => nkIs none e.key).map (·.val) = none
    rw [q]
    rfl
section
variable {X : Cx} {o e : Expr} {apos cpos : Pos} {td ty : TE}
theorem pe_kget (ho : PE X o td) (he : PE X e ty) (m : M1 X o "get" apos e cpos) : PE X (.Call (.Attribute o "get" apos) [e] [] cpos) (tKGet X.K X.w td ty) := by
  refine ⟨fun pins s σ H Q I h => ?_⟩
  refine wpAny_Call_method m.base m.few m.line PySem.F.plainAttrs_dict PySem.F.slot_dict_get PySem.F.type_dict_get (thn (ho.run pins s σ H _ I h) fun u s1 ⟨x, H1, I1, rx, p, es, n, ex, hl, hk, hd, q1⟩ => ?_)
  subst ex
  obtain rfl : u = Value.ref p := rx
  have hp := I1.kIn _ _ hl
  refine ⟨⟨_, hp, rfl⟩, fun b q => ⟨_, by cases q; exact hp, rfl⟩, ?_⟩
  rw [m.trees]
  refine Calls.callWith_builtin rfl (Calls.evalArgs_plain (Calls.spliced_cons (thn (he.run pins s1 σ H1 _ I1 q1) fun iv s2 ⟨y, H2, I2, ry, r, hs, q2⟩ => Calls.spliced_nil ?_)))
  have hp2 := I2.kIn _ _ hl
  have hm := PySem.W.mapOf_K (prog := X.prog) (w := X.w) I2.kIn hl hk
  rcases hs with ⟨rfl, rfl⟩ | ⟨z, rfl, hz⟩
  · obtain rfl : iv = Value.none := ry
    obtain ⟨f, hf, hn⟩ := none_at (P := X.prog) (w := X.w) hp2 hk
    refine call_meetsIn PySem.F.slot_dict_get ⟨_, hp2, rfl⟩ PySem.F.entry_dict_get (PySem.F.args_dict_get_2 _ _) (meets_dict_get (noneKind X.prog X.w) p (show (noneKind X.prog X.w).is none .none = true from rfl) hd) ⟨_, hf, ?_⟩
    rw [hn]
    exact ⟨.non, H2, I2.tok _, rfl, q2⟩
  · obtain ⟨t, rfl⟩ := (show ∃ t, iv = Value.str z t from ry)
    refine call_meetsIn PySem.F.slot_dict_get ⟨_, hp2, rfl⟩ PySem.F.entry_dict_get (PySem.F.args_dict_get_2 _ _) (meets_dict_get (strKind X.prog X.w) p (strKind_is X.prog X.w z t) hd) ⟨_, hm, ?_⟩
    rcases hz with ⟨u, hu, rr⟩ | ⟨hu, rfl⟩
    · rw [hu]
      exact ⟨r, H2, I2.tok _, rr, q2⟩
    · rw [hu]
      exact ⟨.non, H2, I2.tok _, rfl, q2⟩
end
end FG

namespace L10
open PySem PySem.Spec PyProof.Rows L2 GR AD
def isI : PyData → Bool
  | .int _ => true
  | _ => false
def isS : PyData → Bool
  | .str _ => true
  | _ => false
def isTu : PyData → Bool
  | .tuple _ => true
  | _ => false
def isIB : PyData → Bool
  | .int _ => true
  | .bool _ => true
  | _ => false
def isB : PyData → Bool
  | .bool _ => true
  | _ => false
theorem kit_i (K : PySem.W.Frag) : ∀ d : PyData, PySem.W.kitOne K (.type (tyN d)) (.type "int") = some (isIB d)
  | .none => kit_ty (show kitB "NoneType" "int" = some false by decide +kernel)
  | .bool _ => kit_ty (show kitB "bool" "int" = some true by decide +kernel)
  | .int _ => kit_ty (show kitB "int" "int" = some true by decide +kernel)
  | .str _ => kit_ty (show kitB "str" "int" = some false by decide +kernel)
  | .list _ => kit_ty (show kitB "list" "int" = some false by decide +kernel)
  | .tuple _ => kit_ty (show kitB "tuple" "int" = some false by decide +kernel)
  | .dict _ => kit_ty (show kitB "dict" "int" = some false by decide +kernel)
theorem kit_b (K : PySem.W.Frag) : ∀ d : PyData, PySem.W.kitOne K (.type (tyN d)) (.type "bool") = some (isB d)
  | .none => kit_ty (show kitB "NoneType" "bool" = some false by decide +kernel)
  | .bool _ => kit_ty (show kitB "bool" "bool" = some true by decide +kernel)
  | .int _ => kit_ty (show kitB "int" "bool" = some false by decide +kernel)
  | .str _ => kit_ty (show kitB "str" "bool" = some false by decide +kernel)
  | .list _ => kit_ty (show kitB "list" "bool" = some false by decide +kernel)
  | .tuple _ => kit_ty (show kitB "tuple" "bool" = some false by decide +kernel)
  | .dict _ => kit_ty (show kitB "dict" "bool" = some false by decide +kernel)
theorem kit_s (K : PySem.W.Frag) : ∀ d : PyData, PySem.W.kitOne K (.type (tyN d)) (.type "str") = some (isS d)
  | .none => kit_ty (show kitB "NoneType" "str" = some false by decide +kernel)
  | .bool _ => kit_ty (show kitB "bool" "str" = some false by decide +kernel)
  | .int _ => kit_ty (show kitB "int" "str" = some false by decide +kernel)
  | .str _ => kit_ty (show kitB "str" "str" = some true by decide +kernel)
  | .list _ => kit_ty (show kitB "list" "str" = some false by decide +kernel)
  | .tuple _ => kit_ty (show kitB "tuple" "str" = some false by decide +kernel)
  | .dict _ => kit_ty (show kitB "dict" "str" = some false by decide +kernel)
theorem kit_t (K : PySem.W.Frag) : ∀ d : PyData, PySem.W.kitOne K (.type (tyN d)) (.type "tuple") = some (isTu d)
  | .none => kit_ty (show kitB "NoneType" "tuple" = some false by decide +kernel)
  | .bool _ => kit_ty (show kitB "bool" "tuple" = some false by decide +kernel)
  | .int _ => kit_ty (show kitB "int" "tuple" = some false by decide +kernel)
  | .str _ => kit_ty (show kitB "str" "tuple" = some false by decide +kernel)
  | .list _ => kit_ty (show kitB "list" "tuple" = some false by decide +kernel)
  | .tuple _ => kit_ty (show kitB "tuple" "tuple" = some true by decide +kernel)
  | .dict _ => kit_ty (show kitB "dict" "tuple" = some false by decide +kernel)
/-- a test whose answer is told -/
theorem iteB {c : Bool} {A B : Prop} (h1 : c = true → A) (h2 : c = false → B) : if c = true then A else B := by
  cases c with
  | true => exact iteT (h1 rfl)
  | false => exact iteF (h2 rfl)
theorem Dd.tup_inv {K : PySem.W.Frag} {ok : Addr → Prop} {H : Hp} {v : V} {ds : List PyData} (h : Dd K ok H v (.tuple ds)) : ∃ a xs, v = .ref a ∧ SqT K H a xs ∧ DdAll K ok H xs ds := by
  cases h with
  | tup h1 h2 => exact ⟨_, _, rfl, h1, h2⟩
section
variable {P : Program} {w : World} {K : PySem.W.Frag} {mg : Str → Option Value} {base : Heap}
/-- a def of one thing that tells a truth of it -/
def sp_is (K : PySem.W.Frag) (f : PyData → Bool) : Sp := fun vs H Q _ => ∃ (v : V) (d : PyData) (ok : Addr → Prop), vs = [v] ∧ Dd K ok H v d ∧ Q (.bl (f d)) H
abbrev s_is_integer : Stmt := topS 8
theorem sc_is_integer : FnScope ["thing"] ["thing"] (defScope s_is_integer) := ⟨rfl, rfl, rfl, by decide +kernel, rfl, by decide +kernel, by decide +kernel⟩
theorem ok_is_integer {f : Addr} {fd : FuncData} {k : Nat} (F : Fun K "is_integer" "is_integer" s_is_integer f fd) (misi : mg "isinstance" = none) (mint : mg "int" = none) (mbool : mg "bool" = none) : FnOk P w K mg base CX0 (k + 1) f fd ["thing"] (sp_is K isI) := by
  have nd := sc_is_integer.nd
  refine F.ok sc_is_integer (fun vs H Q E h => ?_) (fun cdv A outer s H vs Q E hr h => ?_)
  · obtain ⟨v, d, ok, rfl, _⟩ := h
    rfl
  obtain ⟨v, d, ok, rfl, hd, q⟩ := h
  refine ⟨_, (pss_one (ps_ret (pe_and (pe_callB call_isi (by rfl) misi boot_isinstance (pa_cons (pv 0) (pa_cons (pe_bltn (v := .ty "int") (by rfl) mint boot_int rfl) pa_nil))) (pe_one (pe_not (pe_callB call_isi (by rfl) misi boot_isinstance (pa_cons (pv 0) (pa_cons (pe_bltn (v := .ty "bool") (by rfl) mbool boot_bool rfl) pa_nil)))))))), ?_⟩
  refine ⟨v, rfl, v, .ty "int", _, _, _, rfl, .ty "int", hd.ty, kit_i K d, _, rfl, ?_⟩
  cases d with
  | int i => exact iteT ⟨v, rfl, v, .ty "bool", _, _, _, rfl, .ty "bool", hd.ty, kit_b K _, _, rfl, q⟩
  | bool b => exact iteT ⟨v, rfl, v, .ty "bool", _, _, _, rfl, .ty "bool", hd.ty, kit_b K _, _, rfl, q⟩
  | _ => exact iteF q
/-- a value of the language -/
def isV : PyData → Bool
  | .int i => decide (-LIM ≤ i) && decide (i ≤ LIM)
  | _ => false
abbrev s_is_value : Stmt := topS 9
theorem sc_is_value : FnScope ["thing"] ["thing"] (defScope s_is_value) := ⟨rfl, rfl, rfl, by decide +kernel, rfl, by decide +kernel, by decide +kernel⟩
theorem ok_is_value {f fi : Addr} {fd di : FuncData} {k : Nat} {tl : Tok} (F : Fun K "is_value" "is_value" s_is_value f fd) (G : FnOk P w K mg base CX0 k fi di ["thing"] (sp_is K isI)) (g : mg "is_integer" = some (.ref fi)) (Kf : PySem.W.keepIn K (.ref fi) = true) (b : Binds K di ["thing"] []) (mLIMIT : mg "LIMIT" = some (.int LIM tl)) :
    FnOk P w K mg base CX0 (k + 1) f fd ["thing"] (sp_is K isV) := by
  have nd := sc_is_value.nd
  refine F.ok sc_is_value (fun vs H Q E h => ?_) (fun cdv A outer s H vs Q E hr h => ?_)
  · obtain ⟨v, d, ok, rfl, _⟩ := h
    rfl
  obtain ⟨v, d, ok, rfl, hd, q⟩ := h
  refine ⟨_, (pss_one (ps_ret (pe_and (pe_call G hr (by rfl) g Kf b .nil pass0 (pa_cons (pv 0) pa_nil)) (pe_one (pe_chain op_le op_le (pe_un un_neg (pe_glob (v := .int LIM) rfl mLIMIT ⟨_, rfl⟩)) (pv 0) (pe_glob (v := .int LIM) rfl mLIMIT ⟨_, rfl⟩)))))), ?_⟩
  refine ⟨v, rfl, v, d, ok, rfl, hd, _, rfl, ?_⟩
  cases hd with
  | int i =>
    replace q : Q (.bl (decide (-LIM ≤ i) && decide (i ≤ LIM))) H := q
    refine iteT ⟨LIM, rfl, .int i, rfl, -LIM, i, rfl, rfl, _, rfl, ?_⟩
    cases c : decide (-LIM ≤ i) with
    | true =>
      refine iteT ⟨i, LIM, rfl, rfl, ?_⟩
      rw [c, Bool.true_and] at q
      exact q
    | false =>
      rw [c, Bool.false_and] at q
      exact iteF q
  | _ => exact iteF q
/-! ### names -/
abbrev BARW : List Str := ["key", "if", "at", "count", "sum", "most", "first", "let", "need", "put", "each", "tell"]
def lowC (c : Nat) : Bool := decide (97 ≤ c) && decide (c ≤ 122)
def isN : PyData → Bool
  | .str z => (decide (1 ≤ z.length) && decide (z.length ≤ 8)) && (!decide (z ∈ BARW) && z.cps.toList.all lowC)
  | _ => false
theorem mem26 (c : Nat) : decide (c ∈ L26.cps.toList) = lowC c := by
  rw [Bool.eq_iff_iff, decide_eq_true_eq]
  unfold lowC
  rw [Bool.and_eq_true, decide_eq_true_eq, decide_eq_true_eq]
  constructor
  · exact (show ∀ c, c ∈ L26.cps.toList → 97 ≤ c ∧ c ≤ 122 by decide) c
  · rintro ⟨h1, h2⟩
    have := l26_at (c - 97) (by omega)
    rw [show 97 + (c - 97) = c by omega] at this
    exact List.mem_of_getElem? this
/-- a written tuple of texts -/
def KTx (K : PySem.W.Frag) (p : Addr) (fs : List Str) : Prop := ∀ H, SqT K H p (fs.map V.str)
def Sh (d : PyData) : Prop := ∀ z, d = .str z → z.length ≤ 1000 ∧ PyData.strOk z = true
def sp_isS (K : PySem.W.Frag) (f : PyData → Bool) : Sp := fun vs H Q _ => ∃ (v : V) (d : PyData) (ok : Addr → Prop), vs = [v] ∧ Dd K ok H v d ∧ Sh d ∧ ∀ H', Same H H' → Q (.bl (f d)) H'
theorem take_at {α : Type} {l : List α} {i : Nat} {x : α} (h : l[i]? = some x) : l.take (i + 1) = l.take i ++ [x] := by
  rw [List.take_add_one, h]
  rfl
abbrev s_is_name : Stmt := topS 10
theorem sc_is_name : FnScope ["thing", "sign"] ["thing"] (defScope s_is_name) := ⟨rfl, rfl, rfl, by decide +kernel, rfl, by decide +kernel, by decide +kernel⟩
theorem flat_strsW (W : List Str) : (W.map V.str).all flatV = true := by
  rw [List.all_map, List.all_eq_true]
  intro z _
  rfl
theorem ok_is_name {f aW : Addr} {fd : FuncData} {k : Nat} {tn : Tok} {tl : Tok} (F : Fun K "is_name" "is_name" s_is_name f fd) (misi : mg "isinstance" = none) (mstr : mg "str" = none) (mlen : mg "len" = none) (mall : mg "all" = none)
    (mWORDS : mg "WORDS" = some (.ref aW)) (TW : KTx K aW BARW) (mLONGEST_NAME : mg "LONGEST_NAME" = some (.int 8 tn)) (mLETTERS : mg "LETTERS" = some (.str L26 tl)) : FnOk P w K mg base CX0 (k + 1) f fd ["thing"] (sp_isS K isN) := by
  have nd := sc_is_name.nd
  refine F.ok sc_is_name (fun vs H Q E h => ?_) (fun cdv A outer s H vs Q E hr h => ?_)
  · obtain ⟨v, d, ok, rfl, _⟩ := h
    rfl
  obtain ⟨v, d, ok, rfl, hd, hsh, q⟩ := h
  refine ⟨_, (pss_cons (ps_if (PW.pt (pw_or (pt_not (pt_val (pe_callB call_isi (by rfl) misi boot_isinstance (pa_cons (pv 0) (pa_cons (pe_bltn (v := .ty "str") (by rfl) mstr boot_str rfl) pa_nil)))))
        (pw_or1 (pt_not (pt_chain op_le op_le pe_int (pe_callB call_len_str (by rfl) mlen PySem.boot_len (pa_cons (pv 0) pa_nil)) (pe_glob (v := .int 8) rfl mLONGEST_NAME ⟨_, rfl⟩))))))
      (pss_one (ps_ret pe_bl))
      pss_nil)
      (pss_one (ps_ret (pe_and (pe_cmpR op_notIn_seq (pv 0) (pe_glob (v := .ref aW) rfl mWORDS rfl) (by rfl)) (pe_one (pe_callB (cr_all rfl) (by rfl) mall boot_all (pa_cons (pe_lc (own := [("sign", 1)]) (tt := tYes) (te := tOp (fun x y H Q => ∃ (c : Nat) (z : Str), x = .str ⟨#[c]⟩ ∧ y = .str z ∧ Q (.bl (decide (c ∈ z.cps.toList))) H) (tVar 1) (tC (.str L26))) rfl nd (pi_str (pv 0)) (blkOk_by (N := ["thing", "sign"]) (sc := defScope s_is_name) (by decide +kernel))
        (fun _ _ _ _ _ => (pg_name (i := 1) nd rfl (Or.inl rfl))) (fun _ _ _ _ _ => pts_nil) (fun _ _ _ _ _ => (pe_cmpR op_in_sign (pv 1) (pe_glob (v := .str L26) rfl mLETTERS ⟨_, rfl⟩) (by rfl)))) pa_nil))))))), ?_⟩
  have q0 := q H fun _ _ e => e
  refine ⟨v, rfl, v, .ty "str", _, _, _, rfl, .ty "str", hd.ty, kit_s K d, _, rfl, ?_⟩
  cases hd with
  | str z =>
    have hz := (hsh z rfl).1
    have q1 : ∀ H', Same H H' → Q (.bl ((decide (1 ≤ z.length) && decide (z.length ≤ 8)) && (!decide (z ∈ BARW) && z.cps.toList.all lowC))) H' := q
    have e1 : decide ((1 : Int) ≤ (z.length : Int)) = decide (1 ≤ z.length) := decide_eq_decide.mpr (by omega)
    have e2 : decide ((z.length : Int) ≤ (8 : Int)) = decide (z.length ≤ 8) := decide_eq_decide.mpr (by omega)
    refine iteF ⟨.str z, rfl, z, rfl, h1000 hz, 1, (z.length : Int), rfl, rfl, _, rfl, ?_⟩
    rw [e1]
    cases c1 : decide (1 ≤ z.length) with
    | false =>
      rw [c1, Bool.false_and, Bool.false_and] at q1
      exact iteF ⟨_, rfl, iteT (q1 H fun _ _ e => e)⟩
    | true =>
    rw [c1, Bool.true_and] at q1
    refine iteT ⟨(z.length : Int), 8, rfl, rfl, _, rfl, ?_⟩
    rw [e2]
    cases c2 : decide (z.length ≤ 8) with
    | false =>
      rw [c2, Bool.false_and] at q1
      exact iteT (q1 H fun _ _ e => e)
    | true =>
    rw [c2, Bool.true_and] at q1
    refine iteF ⟨.str z, rfl, aW, BARW.map V.str, rfl, .inr (TW H), rfl, flat_strsW _, _, rfl, ?_⟩
    show if (!inV (.str z) (BARW.map V.str)) = true then _ else _
    rw [in_strs]
    cases c3 : decide (z ∈ BARW) with
    | true =>
      rw [c3] at q1
      exact iteF (q1 H fun _ _ e => e)
    | false =>
    rw [c3, Bool.not_false, Bool.true_and] at q1
    have hlen : z.cps.size ≤ 1000 := hz
    refine iteT ⟨.str z, rfl, z, rfl, fun D nD => ?_⟩
    refine lc_it walk_str (fun i H' => H' D = some (.lst (((z.cps.toList.take i).map lowC).map V.bl)) ∧ ∀ b o, b ≠ D → H b = some o → H' b = some o) ?_ (fun _ _ _ _ => trivial) ?_ ?_
    · exact ⟨upd_same, fun b o nb e => by rw [upd_ne nb]; exact e⟩
    · rintro i x H1 H' hi ⟨hD, kp⟩ ⟨rfl, c, hc, rfl⟩
      have hc' : z.cps.toList[i]? = some c := by rw [Array.getElem?_toList]; exact hc
      refine ⟨rfl, yes_then ⟨.str ⟨#[c]⟩, rfl, c, L26, rfl, rfl, _, hD, small1000 (by rw [List.length_map, List.length_map, List.length_take]; rw [Array.length_toList]; omega), ?_, fun b o nb e => by rw [upd_ne nb]; exact kp b o nb e⟩⟩
      rw [mem26, take_at hc', List.map_append, List.map_append]
      exact upd_same
    · rintro H1 ⟨hD, kp⟩
      have sD : Same H H1 := fun b o e => kp b o (ne_of_none e nD) e
      rw [← Array.length_toList, List.take_length] at hD
      refine ⟨D, z.cps.toList.map lowC, rfl, .inl (.inl hD), ?_⟩
      rw [List.all_map]
      exact q1 H1 sD
  | _ => exact iteT (iteT q0)
end
end L10

namespace L10
open PySem PySem.Spec PyProof.Rows L2 GR AD
/-! ### the form of an expression -/
/-- its word, if it has one -/
def wordV : PyData → V
  | .tuple (.str w :: _) => .str w
  | _ => .non
def fitsD (f : Str) (d : PyData) : Bool := if f = "value" then isV d else if f = "name" then isN d else if f = "position" then (match d with | .int i => decide (0 ≤ i) | _ => false) else if f = "extra" then isTu d else true
/-- the kinds that stand behind a word -/
def look (w : Str) : Option (List Str) := (table.find? fun p => decide (p.1 = w)).map (·.2)
def fitsAll : List Str → List PyData → Bool
  | [], [] => true
  | f :: fs, d :: ds => fitsD f d && fitsAll fs ds
  | _, _ => false
def hasForm : PyData → Bool
  | .tuple (.str w :: r) => (match look w with | some fs => fitsAll fs r | none => false)
  | _ => false
section
variable {P : Program} {w : World} {K : PySem.W.Frag} {mg : Str → Option Value} {base : Heap}
abbrev s_word_of : Stmt := topS 11
theorem sc_word_of : FnScope ["thing"] ["thing"] (defScope s_word_of) := ⟨rfl, rfl, rfl, by decide +kernel, rfl, by decide +kernel, by decide +kernel⟩
def sp_word (K : PySem.W.Frag) : Sp := fun vs H Q _ => ∃ (v : V) (d : PyData) (ok : Addr → Prop), vs = [v] ∧ Dd K ok H v d ∧ Q (wordV d) H
theorem ok_word_of {f : Addr} {fd : FuncData} {k : Nat} (F : Fun K "word_of" "word_of" s_word_of f fd) (misi : mg "isinstance" = none) (mtuple : mg "tuple" = none) (mstr : mg "str" = none) : FnOk P w K mg base CX0 (k + 1) f fd ["thing"] (sp_word K) := by
  have nd := sc_word_of.nd
  refine F.ok sc_word_of (fun vs H Q E h => ?_) (fun cdv A outer s H vs Q E hr h => ?_)
  · obtain ⟨v, d, ok, rfl, _⟩ := h
    rfl
  obtain ⟨v, d, ok, rfl, hd, q⟩ := h
  refine ⟨_, (pss_cons (ps_if (PW.pt (pw_and (pt_val (pe_callB call_isi (by rfl) misi boot_isinstance (pa_cons (pv 0) (pa_cons (pe_bltn (v := .ty "tuple") (by rfl) mtuple boot_tuple rfl) pa_nil)))) (pw_and (pt_truth (pv 0) (fun _ => rfl)) (pw_and1 (pt_val (pe_callB call_isi (by rfl) misi boot_isinstance (pa_cons (pe_ix ix_tup (pv 0) pe_int (fun _ _ => rfl)) (pa_cons (pe_bltn (v := .ty "str") (by rfl) mstr boot_str rfl) pa_nil))))))))
      (pss_one (ps_ret (pe_ix ix_tup (pv 0) pe_int (fun _ _ => rfl))))
      pss_nil)
      (pss_one (ps_ret pe_non))), ?_⟩
  refine ⟨v, rfl, v, .ty "tuple", _, _, _, rfl, .ty "tuple", hd.ty, kit_t K d, _, rfl, ?_⟩
  cases hd with
  | tup hs ha =>
    rename_i a xs ds
    refine iteT ⟨.ref a, rfl, !xs.isEmpty, .inr (.inl ⟨xs, hs, rfl⟩), ?_⟩
    cases ha with
    | nil => exact iteF q
    | cons h1 r1 =>
      rename_i v1 vs1 d1 ds1
      refine iteT ⟨.ref a, rfl, a, _, 0, v1, rfl, rfl, hs, at0, v1, .ty "str", _, _, _, rfl, .ty "str", h1.ty, kit_s K d1, _, rfl, ?_⟩
      cases h1 with
      | str z => exact iteT ⟨.ref a, rfl, a, _, 0, .str z, rfl, rfl, hs, at0, q⟩
      | _ => exact iteF q
  | _ => exact iteF q
abbrev s_fits : Stmt := topS 19
theorem sc_fits : FnScope ["kind", "part"] ["kind", "part"] (defScope s_fits) := ⟨rfl, rfl, rfl, by decide +kernel, rfl, by decide +kernel, by decide +kernel⟩
def sp_fits (K : PySem.W.Frag) : Sp := fun vs H Q _ => ∃ (z : Str) (v : V) (d : PyData) (ok : Addr → Prop), vs = [.str z, v] ∧ Dd K ok H v d ∧ Sh d ∧ ∀ H', Same H H' → Q (.bl (fitsD z d)) H'
theorem ok_fits {f fv fn fi : Addr} {fd dv dn di : FuncData} {k : Nat} (F : Fun K "fits" "fits" s_fits f fd) (Gv : FnOk P w K mg base CX0 k fv dv ["thing"] (sp_is K isV)) (gv : mg "is_value" = some (.ref fv)) (Kv : PySem.W.keepIn K (.ref fv) = true) (bv : Binds K dv ["thing"] [])
    (Gn : FnOk P w K mg base CX0 k fn dn ["thing"] (sp_isS K isN)) (gn : mg "is_name" = some (.ref fn)) (Kn : PySem.W.keepIn K (.ref fn) = true) (bn : Binds K dn ["thing"] [])
    (Gi : FnOk P w K mg base CX0 k fi di ["thing"] (sp_is K isI)) (gi : mg "is_integer" = some (.ref fi)) (Ki : PySem.W.keepIn K (.ref fi) = true) (bi : Binds K di ["thing"] [])
    (misi : mg "isinstance" = none) (mtuple : mg "tuple" = none) : FnOk P w K mg base CX0 (k + 1) f fd ["kind", "part"] (sp_fits K) := by
  have nd := sc_fits.nd
  refine F.ok sc_fits (fun vs H Q E h => ?_) (fun cdv A outer s H vs Q E hr h => ?_)
  · obtain ⟨z, v, d, ok, rfl, _⟩ := h
    rfl
  obtain ⟨z, v, d, ok, rfl, hd, hsh, q⟩ := h
  refine ⟨_, (pss_cons (ps_if (pt_cmpR op_eq (pv 0) pe_str (nomark _)) (pss_one (ps_ret (pe_call Gv hr (by rfl) gv Kv bv .nil pass0 (pa_cons (pv 1) pa_nil)))) pss_nil)
      (pss_cons (ps_if (pt_cmpR op_eq (pv 0) pe_str (nomark _)) (pss_one (ps_ret (pe_call Gn hr (by rfl) gn Kn bn .nil pass0 (pa_cons (pv 1) pa_nil)))) pss_nil)
      (pss_cons (ps_if (pt_cmpR op_eq (pv 0) pe_str (nomark _)) (pss_one (ps_ret (pe_and (pe_call Gi hr (by rfl) gi Ki bi .nil pass0 (pa_cons (pv 1) pa_nil)) (pe_one (pe_cmpR op_ge (pv 1) pe_int (nomark _)))))) pss_nil)
      (pss_cons (ps_if (pt_cmpR op_eq (pv 0) pe_str (nomark _)) (pss_one (ps_ret (pe_callB call_isi (by rfl) misi boot_isinstance (pa_cons (pv 1) (pa_cons (pe_bltn (v := .ty "tuple") (by rfl) mtuple boot_tuple rfl) pa_nil))))) pss_nil)
      (pss_one (ps_ret pe_bl)))))), ?_⟩
  have q0 : Q (.bl (fitsD z d)) H := q H fun _ _ e => e
  unfold fitsD at q q0
  refine ⟨.str z, rfl, rfl, _, rfl, ite2 (fun e1 => ?_) (fun e1 => ?_)⟩
  · have e1 : z = "value" := by simpa using e1
    rw [if_pos e1] at q0
    exact ⟨v, rfl, v, d, ok, rfl, hd, q0⟩
  have e1 : z ≠ "value" := fun x => e1 (by simpa using x)
  rw [if_neg e1] at q0
  simp only [if_neg e1] at q
  refine ⟨.str z, rfl, rfl, _, rfl, ite2 (fun e2 => ?_) (fun e2 => ?_)⟩
  · have e2 : z = "name" := by simpa using e2
    simp only [if_pos e2] at q
    exact ⟨v, rfl, v, d, ok, rfl, hd, hsh, q⟩
  have e2 : z ≠ "name" := fun x => e2 (by simpa using x)
  rw [if_neg e2] at q0
  refine ⟨.str z, rfl, rfl, _, rfl, ite2 (fun e3 => ?_) (fun e3 => ?_)⟩
  · have e3 : z = "position" := by simpa using e3
    rw [if_pos e3] at q0
    refine ⟨v, rfl, v, d, ok, rfl, hd, ?_⟩
    cases hd with
    | int i => exact ⟨true, rfl, iteT ⟨.int i, rfl, i, 0, rfl, rfl, q0⟩⟩
    | _ => exact ⟨false, rfl, iteF q0⟩
  have e3 : z ≠ "position" := fun x => e3 (by simpa using x)
  rw [if_neg e3] at q0
  refine ⟨.str z, rfl, rfl, _, rfl, ite2 (fun e4 => ?_) (fun e4 => ?_)⟩
  · have e4 : z = "extra" := by simpa using e4
    rw [if_pos e4] at q0
    exact ⟨v, rfl, v, .ty "tuple", _, _, _, rfl, .ty "tuple", hd.ty, kit_t K d, q0⟩
  have e4 : z ≠ "extra" := fun x => e4 (by simpa using x)
  rw [if_neg e4] at q0
  exact q0
end
end L10

namespace L10
open PySem PySem.Spec PyProof.Rows L2 GR AD RZ
theorem walk_zipT {K : PySem.W.Frag} {a b : Addr} {xs ys : List V} {n : Nat} (hx : n = xs.length) (hy : n = ys.length) : Walk (ItzT K a b) n (fun H => SqT K H a xs ∧ SqT K H b ys) (YPair (fun i => xs[i]?) (fun i => ys[i]?)) := by
  refine ⟨fun i H hi q => ⟨xs, ys, xs[i]'(by omega), ys[i]'(by omega), q.1, q.2, List.getElem?_eq_getElem _, List.getElem?_eq_getElem _⟩, fun H q => ⟨xs, ys, q.1, q.2, .inl (by omega)⟩, fun i H v H' hi q y => ?_⟩
  obtain ⟨T, x, z, h1, h2, h3, h4, h5⟩ := y
  exact ⟨T, x, z, h1, h2, h3, h4 xs q.1, h5 ys q.2⟩
/-- the table of kinds, as it is written -/
structure Tab (K : PySem.W.Frag) (w : World) (fA : Addr) (es : Array DictEntry) (n : Nat) : Prop where
  at' : K.lookup fA = some ⟨.type "dict", none, .dict es n, #[]⟩
  keys : PySem.W.KeysLit w.params es.toList
  low : (fA == sysModules) = false
  yes : ∀ wd fs, (wd, fs) ∈ table → ∃ p, findBy Value.isStrOf es wd = some (.ref p) ∧ KTx K p fs
  no : ∀ wd, look wd = none → findBy Value.isStrOf es wd = none
theorem look_some {w : Str} {fs : List Str} (h : look w = some fs) : (w, fs) ∈ table := by
  unfold look at h
  obtain ⟨p, hp, rfl⟩ := Option.map_eq_some_iff.mp h
  have h1 := List.find?_some hp
  have h2 := List.mem_of_find?_eq_some hp
  rw [decide_eq_true_eq] at h1
  rw [← h1]
  exact h2
theorem form_some {z : Str} {r : List PyData} {fs : List Str} (h : look z = some fs) : hasForm (.tuple (.str z :: r)) = fitsAll fs r := by
  show (match look z with | some fs => fitsAll fs r | none => false) = _
  rw [h]
theorem form_none {z : Str} {r : List PyData} (h : look z = none) : hasForm (.tuple (.str z :: r)) = false := by
  show (match look z with | some fs => fitsAll fs r | none => false) = _
  rw [h]
theorem fitsAll_len : ∀ {fs : List Str} {ds : List PyData}, fs.length ≠ ds.length → fitsAll fs ds = false
  | [], [], h => absurd rfl h
  | [], _ :: _, _ => rfl
  | _ :: _, [], _ => rfl
  | f :: fs, d :: ds, h => by
    show (fitsD f d && fitsAll fs ds) = false
    rw [fitsAll_len (fs := fs) (ds := ds) (fun e => h (by rw [List.length_cons, List.length_cons, e])), Bool.and_false]
/-- the answers so far -/
def fitsUp (fs : List Str) (ds : List PyData) (i : Nat) : List Bool := ((fs.zip ds).take i).map fun p => fitsD p.1 p.2
theorem fitsAll_zip : ∀ {fs : List Str} {ds : List PyData}, fs.length = ds.length → fitsAll fs ds = ((fs.zip ds).map fun p => fitsD p.1 p.2).all id
  | [], [], _ => rfl
  | f :: fs, d :: ds, h => by
    show (fitsD f d && fitsAll fs ds) = _
    rw [fitsAll_zip (fs := fs) (ds := ds) (by simpa using h), List.zip_cons_cons, List.map_cons, List.all_cons]
    rfl
theorem table_len : ∀ p, p ∈ table → p.2.length ≤ 6 := by decide
theorem dd_at {K : PySem.W.Frag} {ok : Addr → Prop} {H : Hp} : ∀ {vs : List V} {ds : List PyData}, DdAll K ok H vs ds → ∀ {i : Nat} {v : V}, vs[i]? = some v → ∃ d, ds[i]? = some d ∧ Dd K ok H v d
  | _, _, .nil, i, v, h => by simp at h
  | _, _, .cons h1 t, 0, v, h => by cases h; exact ⟨_, rfl, h1⟩
  | _, _, .cons h1 t, i + 1, v, h => by
    obtain ⟨d, e1, e2⟩ := dd_at t (by simpa using h)
    exact ⟨d, by simpa using e1, e2⟩
section
variable {P : Program} {w : World} {K : PySem.W.Frag} {mg : Str → Option Value} {base : Heap}
abbrev s_has_form : Stmt := topS 18
abbrev N_hf : List Str := ["thing", "kinds", "kind", "part"]
theorem sc_has_form : FnScope N_hf ["thing"] (defScope s_has_form) := ⟨rfl, rfl, rfl, by decide +kernel, rfl, by decide +kernel, by decide +kernel⟩
def sp_hf (K : PySem.W.Frag) : Sp := fun vs H Q _ => ∃ (v : V) (d : PyData) (ok : Addr → Prop), vs = [v] ∧ Dd K ok H v d ∧ (∀ ds, d = .tuple ds → ∀ y, y ∈ ds → Sh y) ∧ ∀ H', Same H H' → Q (.bl (hasForm d)) H'
theorem ok_has_form {f fw ff fA : Addr} {fd dw df : FuncData} {k : Nat} {es : Array DictEntry} {n : Nat} (F : Fun K "has_form" "has_form" s_has_form f fd) (Gw : FnOk P w K mg base CX0 k fw dw ["thing"] (sp_word K)) (gw : mg "word_of" = some (.ref fw)) (Kw : PySem.W.keepIn K (.ref fw) = true) (bw : Binds K dw ["thing"] [])
    (Gf : FnOk P w K mg base CX0 k ff df ["kind", "part"] (sp_fits K)) (gf : mg "fits_expressions" = some (.ref ff)) (Kf : PySem.W.keepIn K (.ref ff) = true) (bf : Binds K df ["kind", "part"] [])
    (mFIELDS : mg "FIELDS_expressions" = some (.ref fA)) (T : Tab K w fA es n) (mlen : mg "len" = none) (mzip : mg "zip" = none) (mall : mg "all" = none) : FnOk P w K mg base CX0 (k + 1) f fd ["thing"] (sp_hf K) := by
  have nd := sc_has_form.nd
  refine F.ok sc_has_form (fun vs H Q E h => ?_) (fun cdv A outer s H vs Q E hr h => ?_)
  · obtain ⟨v, d, ok, rfl, _⟩ := h
    rfl
  obtain ⟨v, d, ok, rfl, hd, hsh, q⟩ := h
  refine ⟨_, (pss_cons (ps_set (i := 1) nd rfl (.inl rfl) (FG.pe_kget (pe_glob rfl mFIELDS (v := .ref fA) rfl) (pe_call Gw hr (by rfl) gw Kw bw .nil pass0 (pa_cons (pv 0) pa_nil)) ⟨by rfl, by rfl, by rfl, by rfl⟩))
      (pss_cons (ps_if (PW.pt (pw_or (pt_cmpR op_isN (pv 1) pe_non (nomark _)) (pw_or1 (pt_cmpR op_ne (pe_callB call_len_seq (by rfl) mlen PySem.boot_len (pa_cons (pv 0) pa_nil)) (pe_op op_add pe_int (pe_callB call_len_seq (by rfl) mlen PySem.boot_len (pa_cons (pv 1) pa_nil))) (nomark _)))))
        (pss_one (ps_ret pe_bl))
        pss_nil)
      (pss_one (ps_ret (pe_callB (cr_all rfl) (by rfl) mall boot_all (pa_cons (pe_lc (own := [("kind", 2), ("part", 3)]) (g := gTup K 2 (gCons (gName 2) (gCons (gName 3) gNil))) (tt := tYes) (te := tCall (sp_fits K) [] E0 (tCons (tVar 2) (tCons (tVar 3) tNil))) rfl nd
          (pi_zipA (by rfl) mzip (pa_cons (pv 1) (pa_cons (pe_slice L2.sl_tup (pv 0) (po_some pe_int) po_none) pa_nil))) (blkOk_by (N := N_hf) (sc := defScope s_has_form) (by decide +kernel))
          (fun _ _ _ _ _ => (pg_tup rfl (pgs_cons (pg_name (i := 2) (x := "kind") nd rfl (Or.inl rfl)) (pgs_cons (pg_name (i := 3) (x := "part") nd rfl (Or.inl rfl)) pgs_nil))))
          (fun _ _ _ _ _ => pts_nil) (fun _ _ _ _ _ => (pe_call Gf hr (by rfl) gf Kf bf .nil pass0 (pa_cons (pv 2) (pa_cons (pv 3) pa_nil))))) pa_nil)))))), ?_⟩
  refine ⟨fA, es, n, rfl, T.at', T.keys, T.low, v, rfl, v, d, ok, rfl, hd, ?_⟩
  cases hd with
  | tup hs ha =>
    rename_i a xs ds
    cases ha with
    | nil => exact ⟨.non, .inl ⟨rfl, rfl⟩, .non, rfl, rfl, _, rfl, iteT (iteT (q H fun _ _ e => e))⟩
    | cons h1 r1 =>
      rename_i v1 vs1 d1 ds1
      cases h1 with
      | str z =>
        cases hlk : look z with
        | none =>
          refine ⟨.non, .inr ⟨z, rfl, .inr ⟨T.no z hlk, rfl⟩⟩, .non, rfl, rfl, _, rfl, iteT (iteT ?_)⟩
          have := q H fun _ _ e => e
          rw [form_none hlk] at this
          exact this
        | some fs =>
          have hq : ∀ H', Same H H' → Q (.bl (fitsAll fs ds1)) H' := fun H' s => by
            have := q H' s
            rw [form_some hlk] at this
            exact this
          obtain ⟨p, hp1, hp2⟩ := T.yes z fs (look_some hlk)
          have hlen := r1.len
          have hf6 : fs.length ≤ 6 := table_len _ (look_some hlk)
          refine ⟨.ref p, .inr ⟨z, rfl, .inl ⟨.ref p, hp1, rfl⟩⟩, .ref p, rfl, rfl, _, rfl, ?_⟩
          rw [decide_eq_false (fun z => nomatch z)]
          refine iteF ⟨.ref a, rfl, a, _, rfl, .inr hs, .ref p, rfl, p, _, rfl, .inr (hp2 H), 1, _, rfl, rfl, rfl, _, rfl, ?_⟩
          by_cases c : fs.length = ds1.length
          case neg =>
            rw [fitsAll_len c] at hq
            rw [show (!decide (V.int (((V.str z :: vs1).length : Nat) : Int) = V.int (1 + (((fs.map V.str).length : Nat) : Int)))) = true from by
              rw [decide_eq_false (fun e => c (by injection e with e; rw [List.length_cons, List.length_map] at e; omega))]; rfl]
            exact iteT (hq H fun _ _ e => e)
          rw [show (!decide (V.int (((V.str z :: vs1).length : Nat) : Int) = V.int (1 + (((fs.map V.str).length : Nat) : Int)))) = false from by
            rw [decide_eq_true (by congr 1; rw [List.length_cons, List.length_map]; omega)]; rfl]
          refine iteF ⟨.ref p, rfl, .ref a, rfl, 1, rfl, a, _, rfl, hs, ?_, fun c1 nc => ?_⟩
          · rw [List.length_cons]
            rintro ⟨e, _⟩
            have : HT.sIx (vs1.length + 1) 0 (some 1) = min 1 (vs1.length + 1) := HT.sIx_nat _ _ 1
            rw [this] at e
            omega
          have hcut : cutV (.str z :: vs1) (some 1) none = vs1 := by
            unfold cutV
            rw [HT.sIx_none, show HT.sIx (V.str z :: vs1).length 0 (some 1) = min 1 (V.str z :: vs1).length from HT.sIx_nat _ _ 1, List.length_cons, show min 1 (vs1.length + 1) = 1 by omega, List.drop_succ_cons, List.drop_zero, show vs1.length + 1 - 1 = vs1.length by omega, List.take_length]
          rw [hcut]
          have sc := same_upd (o := .tup vs1) nc
          have hc1 : upd H c1 (.tup vs1) c1 = some (.tup vs1) := upd_same
          revert sc hc1
          generalize upd H c1 (.tup vs1) = H1
          intro sc hc1
          refine ⟨p, c1, fs.map V.str, vs1, rfl, .inr ⟨hp2 H1, .inl (.inl hc1), fun D nD => ?_⟩⟩
          refine lc_it (walk_zipT (xs := fs.map V.str) (ys := vs1) (n := fs.length) (by rw [List.length_map]) (by omega)) (fun i H' => H' D = some (.lst ((fitsUp fs ds1 i).map V.bl)) ∧ ∀ b o, b ≠ D → H1 b = some o → H' b = some o) ?_ ?_ ?_ ?_
          · exact ⟨upd_same, fun b o nb e => by rw [upd_ne nb]; exact e⟩
          · rintro i H' _ ⟨_, kp⟩
            exact ⟨hp2 H', .inl (.inl (kp _ _ (ne_of_none hc1 nD) hc1))⟩
          · rintro i x H2 H' hi ⟨hD, kp⟩ ⟨T1, x1, y1, rfl, hT, rfl, hx1, hy1⟩
            replace hx1 : (fs.map V.str)[i]? = some x1 := hx1
            replace hy1 : vs1[i]? = some y1 := hy1
            rw [List.getElem?_map] at hx1
            obtain ⟨fi, hfi, rfl⟩ := Option.map_eq_some_iff.mp hx1
            have sT := same_upd (o := .tup [.str fi, y1]) hT
            have s12 : Same H1 H2 := fun b o e => kp b o (ne_of_none e nD) e
            have s02 := sc.trans (s12.trans sT)
            obtain ⟨di, hdi, hyd⟩ := dd_at (r1.keep (KeepO.of s02)) hy1
            have hDT := sT _ _ hD
            refine ⟨_, _, rfl, .inl (.inl upd_same), rfl, _, _, rfl, _, _, rfl, rfl, rfl, yes_then ⟨.str fi, rfl, y1, rfl, fi, y1, di, ok, rfl, hyd, hsh _ rfl di (List.mem_cons_of_mem _ (List.mem_of_getElem? hdi)), fun H3 s3 => ⟨_, s3 _ _ hDT, small1000 ?_, ?_, fun b o nb e => ?_⟩⟩⟩
            · unfold fitsUp
              rw [List.length_map, List.length_map, List.length_take]
              omega
            · have hz : (fs.zip ds1)[i]? = some (fi, di) := List.getElem?_zip_eq_some.mpr ⟨hfi, hdi⟩
              unfold fitsUp
              rw [take_at hz, List.map_append, List.map_append]
              exact upd_same
            · rw [upd_ne nb]
              exact s3 _ _ (sT _ _ (kp b o nb e))
          · rintro H2 ⟨hD, kp⟩
            have s12 : Same H1 H2 := fun b o e => kp b o (ne_of_none e nD) e
            have hzl : fs.length = (fs.zip ds1).length := by
              rw [List.length_zip]
              omega
            unfold fitsUp at hD
            rw [hzl, List.take_length] at hD
            refine ⟨D, (fs.zip ds1).map fun p => fitsD p.1 p.2, rfl, .inl (.inl hD), ?_⟩
            rw [← fitsAll_zip c]
            exact hq H2 (sc.trans s12)
      | _ => exact ⟨.non, .inl ⟨rfl, rfl⟩, .non, rfl, rfl, _, rfl, iteT (iteT (q H fun _ _ e => e))⟩
  | _ => exact ⟨.non, .inl ⟨rfl, rfl⟩, .non, rfl, rfl, _, rfl, iteT (iteT (q H fun _ _ e => e))⟩
end
end L10

namespace L10
open PySem PySem.Spec PyProof.Rows L2 GR AD RZ WX
mutual
theorem _root_.AD.Dd.off {K : PySem.W.Frag} {ok : Addr → Prop} {H : Hp} {p : Addr} (n : H p = none) : ∀ {v : V} {d : PyData}, Dd K ok H v d → Dd K (fun b => ok b ∧ b ≠ p) H v d
  | _, _, .non => .non
  | _, _, .bl b => .bl b
  | _, _, .int i => .int i
  | _, _, .str x => .str x
  | _, _, .lst h o q => .lst h ⟨o, ne_of_none h n⟩ (AD.DdAll.off n q)
  | _, _, .tup h q => .tup h (AD.DdAll.off n q)
  | _, _, .dk h o q => .dk h ⟨o, ne_of_none h n⟩ (AD.DdAll.off n q)
theorem _root_.AD.DdAll.off {K : PySem.W.Frag} {ok : Addr → Prop} {H : Hp} {p : Addr} (n : H p = none) : ∀ {vs : List V} {ds : List PyData}, DdAll K ok H vs ds → DdAll K (fun b => ok b ∧ b ≠ p) H vs ds
  | _, _, .nil => .nil
  | _, _, .cons h q => .cons (AD.Dd.off n h) (AD.DdAll.off n q)
end
theorem _root_.AD.DdAll.app {K : PySem.W.Frag} {ok : Addr → Prop} {H : Hp} : ∀ {vs us : List V} {ds es : List PyData}, DdAll K ok H vs ds → DdAll K ok H us es → DdAll K ok H (vs ++ us) (ds ++ es)
  | _, _, _, _, .nil, h => h
  | _, _, _, _, .cons a t, h => .cons a (t.app h)
section
variable {P : Program} {w : World} {K : PySem.W.Frag} {mg : Str → Option Value} {base : Heap}
abbrev s_contained_of : Stmt := topS 23
theorem sc_contained_of : FnScope ["expression", "wanted", "found", "kind", "part"] ["expression", "wanted"] (defScope s_contained_of) := ⟨rfl, rfl, rfl, by decide +kernel, rfl, by decide +kernel, by decide +kernel⟩
def sp_contained_of (K : PySem.W.Frag) : Sp := fun vs H Q _ => ∃ (a wA : Addr) (wd : Str) (fs wanted : List Str) (rest : List PyData) (ok : Addr → Prop), vs = [.ref a, .ref wA] ∧ Dd K ok H (.ref a) (.tuple (.str wd :: rest)) ∧ (wd, fs) ∈ table ∧ Fits fs rest ∧ (pick wanted fs rest).length ≤ 4000000 ∧ SqT K H wA (wanted.map V.str) ∧
  ∀ H' p us, Same H H' → H p = none → H' p = some (.lst us) → DdAll K ok H' us (pick wanted fs rest) → Q (.ref p) H'
theorem wanted_in (f : Str) (W : List Str) : inV (.str f) (W.map V.str) = decide (f ∈ W) := by
  unfold inV
  rw [List.any_map, Bool.eq_iff_iff, List.any_eq_true, decide_eq_true_eq]
  constructor
  · rintro ⟨z, hz, e⟩
    have : eqV (.str z) (.str f) = true := e
    have e2 : z = f := by
      simpa [eqV] using this
    exact e2 ▸ hz
  · intro h
    exact ⟨f, h, by show eqV (.str f) (.str f) = true; simp [eqV]⟩
theorem flat_strs (W : List Str) : (W.map V.str).all flatV = true := by
  rw [List.all_map, List.all_eq_true]
  intro z _
  rfl
theorem ok_contained_of {f fA : Addr} {fd : FuncData} {k : Nat} (F : Fun K "contained_of" "contained_of" s_contained_of f fd) (mFIELDS : mg "FIELDS_expressions" = some (.ref fA)) (T : Flds K w fA) (mzip : mg "zip" = none) :
    FnOk P w K mg base CX0 (k + 1) f fd ["expression", "wanted"] (sp_contained_of K) := by
  have nd := sc_contained_of.nd
  refine F.ok sc_contained_of (fun vs H Q E h => ?_) (fun cdv A outer s H vs Q E hr h => ?_)
  · obtain ⟨a, wA, wd, fs, wanted, rest, ok, rfl, _⟩ := h
    rfl
  obtain ⟨a, wA, wd, fs, wanted, rest, ok, rfl, hd, ht, hfit, hlen, hW, q⟩ := h
  refine ⟨_, (pss_cons (ps_set (i := 2) nd rfl (.inl rfl) (pe_lst pa_nil))
      (pss_cons (ps_for PassesOwn.never rfl (pi_zipA (by rfl) mzip (pa_cons (pe_ix ix_kdict (pe_glob rfl mFIELDS (v := .ref fA) rfl) (pe_ix ix_tup (pv 0) pe_int (fun _ _ => rfl)) (fun _ _ => rfl)) (pa_cons (pe_slice L2.sl_tup (pv 0) (po_some pe_int) po_none) pa_nil))) (pg_tup rfl (pgs_cons (pg_name (i := 3) nd rfl (Or.inl rfl)) (pgs_cons (pg_name (i := 4) nd rfl (Or.inl rfl)) pgs_nil)))
      (pss_one (ps_if (pt_cmpR op_eq (pv 3) pe_str (nomark _))
        (pss_one (ps_expr (pe_bm PySem.F.plainAttrs_list PySem.F.slot_list_extend PySem.F.type_list_extend mt_extendT (pv 2) (pa_cons (pv 4) pa_nil))))
        (pss_one (ps_if (pt_cmpR op_in_seq (pv 3) (pv 1) (by rfl))
          (pss_one (ps_expr (pe_bm PySem.F.plainAttrs_list PySem.F.slot_list_append PySem.F.type_list_append mt_append (pv 2) (pa_cons (pv 4) pa_nil))))
          pss_nil)))))
      (pss_one (ps_ret (pv 2))))), ?_⟩
  cases hd with
  | tup hS hA =>
  cases hA with
  | cons hw hA =>
  cases hw
  rename_i vs0
  obtain ⟨fp, hK, hF⟩ := T wd fs ht
  have hl0 := hA.len
  refine ⟨Nat.zero_le _, fun fo nfo => ?_⟩
  have sf := same_upd (o := .lst []) nfo
  refine ⟨.ref a, rfl, a, _, 0, .str wd, rfl, rfl, (KeepT.of sf).seqt hS, at0, fA, wd, .ref fp, rfl, rfl, hK, .ref a, rfl, 1, rfl, a, _, rfl, (KeepT.of sf).seqt hS, ?_, fun c nc => ?_⟩
  · rw [List.length_cons]
    rintro ⟨e, _⟩
    have : HT.sIx (vs0.length + 1) 0 (some 1) = min 1 (vs0.length + 1) := HT.sIx_nat _ _ 1
    rw [this] at e
    omega
  have hcut : cutV (.str wd :: vs0) (some 1) none = vs0 := by
    unfold cutV
    rw [HT.sIx_none, show HT.sIx (V.str wd :: vs0).length 0 (some 1) = min 1 (V.str wd :: vs0).length from HT.sIx_nat _ _ 1, List.length_cons, show min 1 (vs0.length + 1) = 1 by omega, List.drop_succ_cons, List.drop_zero, show vs0.length + 1 - 1 = vs0.length by omega, List.take_length]
  rw [hcut]
  have sc := same_upd (o := .tup vs0) nc
  have hc1 : upd (upd H fo (.lst [])) c (.tup vs0) c = some (.tup vs0) := upd_same
  have hf1 := sc _ _ (show upd H fo (.lst []) fo = _ from upd_same)
  have s2 := sf.trans sc
  revert hc1 hf1 s2
  generalize upd (upd H fo (.lst [])) c (.tup vs0) = H1
  intro hc1 hf1 s2
  have hl : (fs.map V.str).length = vs0.length := by rw [List.length_map, hfit.len, hl0]
  refine ⟨fp, c, fs.map V.str, vs0, rfl, .inr ⟨hF H1, .inl (.inl hc1), ?_⟩⟩
  refine for_zipT hl (fun i σ H' => ∃ (y3 y4 : Option V) (us : List V), σ = [some (.ref a), some (.ref wA), some (.ref fo), y3, y4] ∧ H' fo = some (.lst us) ∧ DdAll K (fun b => ok b ∧ b ≠ fo) H' us (pick wanted (fs.take i) (rest.take i)) ∧ (∀ b o, b ≠ fo → H1 b = some o → H' b = some o)) ?_ ?_ ?_ ?_
  · refine ⟨none, none, [], rfl, hf1, ?_, fun b o _ e => e⟩
    simp only [List.take_zero, pick]
    exact .nil
  · rintro i σ H' ⟨y3, y4, us, rfl, hu, hdp, kk⟩
    exact ⟨hF H', .inl (.inl (kk _ _ (ne_of hc1 hf1 (fun z => by cases z)) hc1))⟩
  · rintro i x y t σ H' hx hy ⟨y3, y4, us, rfl, hu, hdp, kk⟩ nt
    rw [List.getElem?_map] at hx
    obtain ⟨fi, hfi, rfl⟩ : ∃ fi, fs[i]? = some fi ∧ x = .str fi := by
      cases e : fs[i]? with
      | none =>
        rw [e] at hx
        cases hx
      | some fi =>
        rw [e] at hx
        cases hx
        exact ⟨fi, rfl, rfl⟩
    obtain ⟨di, hdi, hyd⟩ := dd_at (hA.off nfo) hy
    have st := same_upd (o := .tup [.str fi, y]) nt
    have kt : KeepT H (upd H' t (.tup [.str fi, y])) := ⟨fun b xs e => st _ _ (kk _ _ (ne_of_none e nfo) (s2 _ _ e)), fun b o xs e => st _ _ (kk _ _ (ne_of_none e nfo) (s2 _ _ e))⟩
    have ko : KeepO (fun b => ok b ∧ b ≠ fo) H (upd H' t (.tup [.str fi, y])) := ⟨kt.1, kt.2, fun b o hb e => st _ _ (kk _ _ hb.2 (s2 _ _ e))⟩
    have hyd2 := hyd.keep ko
    have hu2 := st _ _ hu
    have ntf : t ≠ fo := (ne_of_none hu nt).symm
    have hp : pick wanted (fs.take (i + 1)) (rest.take (i + 1)) = pick wanted (fs.take i) (rest.take i) ++ pick1 wanted fi di := pick_take wanted i hfi hdi
    have hl2 := pick_len wanted (fs := fs) (ds := rest) (i + 1)
    have hlu := hdp.len
    rw [hp, List.length_append] at hl2
    -- what is put behind us
    have turn : ∀ zs' : List V, DdAll K (fun b => ok b ∧ b ≠ fo) (upd H' t (.tup [.str fi, y])) zs' (pick1 wanted fi di) → ∃ (z3 z4 : Option V) (us' : List V), [some (.ref a), some (.ref wA), some (.ref fo), some (.str fi), some y] = [some (.ref a), some (.ref wA), some (.ref fo), z3, z4] ∧
        upd (upd H' t (.tup [.str fi, y])) fo (.lst (us ++ zs')) fo = some (.lst us') ∧ DdAll K (fun b => ok b ∧ b ≠ fo) (upd (upd H' t (.tup [.str fi, y])) fo (.lst (us ++ zs'))) us' (pick wanted (fs.take (i + 1)) (rest.take (i + 1))) ∧ (∀ b o, b ≠ fo → H1 b = some o → upd (upd H' t (.tup [.str fi, y])) fo (.lst (us ++ zs')) b = some o) := by
      intro zs' hz
      have k2 : KeepT (upd H' t (.tup [.str fi, y])) (upd (upd H' t (.tup [.str fi, y])) fo (.lst (us ++ zs'))) := KeepT.lst hu2
      refine ⟨_, _, us ++ zs', rfl, upd_same, ?_, fun b o hb e => ?_⟩
      · rw [hp]
        have ko2 : KeepO (fun b => ok b ∧ b ≠ fo) (upd H' t (.tup [.str fi, y])) (upd (upd H' t (.tup [.str fi, y])) fo (.lst (us ++ zs'))) := ⟨k2.1, k2.2, fun b o hb e => by rw [upd_ne hb.2]; exact e⟩
        exact ((hdp.keep (KeepO.of st)).keep ko2).app (hz.keep ko2)
      · rw [upd_ne hb]
        exact st _ _ (kk b o hb e)
    refine ⟨t, [.str fi, y], rfl, .inl (.inl upd_same), rfl, _, _, rfl, _, _, rfl, rfl, ?_⟩
    refine ⟨.str fi, rfl, rfl, _, rfl, ite2 (fun e1 => ?_) (fun e1 => ?_)⟩
    · have e1 : fi = "extra" := by simpa using e1
      subst e1
      obtain ⟨xs, rfl⟩ := hfit.at' hfi hdi
      cases hyd2 with
      | tup hys hyA =>
      rename_i ya zs'
      have hz := hyA.len
      refine ⟨.ref fo, rfl, .inl ⟨rfl, _, .inl (.inl hu2)⟩, .ref ya, rfl, fo, ya, us, zs', rfl, rfl, hu2, hys, ?_, turn zs' ?_⟩
      · rw [hlu, hz]
        unfold pick1 at hl2
        rw [if_pos rfl, items] at hl2
        exact Nat.le_trans (show _ ≤ 4000000 by omega) (by rw [sizeLine_eq]; decide)
      · unfold pick1
        rw [if_pos rfl]
        exact hyA
    · have e1 : fi ≠ "extra" := fun z => e1 (by simpa using z)
      refine ⟨.str fi, rfl, .ref wA, rfl, wA, wanted.map V.str, rfl, .inr ((KeepT.trans ⟨fun b xs e => kk _ _ (ne_of_none e nfo) (s2 _ _ e), fun b o xs e => kk _ _ (ne_of_none e nfo) (s2 _ _ e)⟩ (KeepT.of st)).seqt hW), rfl, flat_strs wanted, _, rfl, ?_⟩
      rw [wanted_in]
      refine ite2 (fun e2 => ?_) (fun e2 => ?_)
      · have e2 : fi ∈ wanted := by simpa using e2
        refine ⟨.ref fo, rfl, .inl ⟨rfl, _, .inl (.inl hu2)⟩, y, rfl, fo, _, _, rfl, rfl, hu2, ?_, turn [y] ?_⟩
        · rw [hlu]
          exact Nat.lt_of_le_of_lt (show _ ≤ 4000000 by omega) (by rw [sizeLine_eq]; decide)
        · unfold pick1
          rw [if_neg e1, if_pos e2]
          exact .cons hyd2 .nil
      · have e2 : fi ∉ wanted := fun z => e2 (by simpa using z)
        refine ⟨_, _, us, rfl, hu2, ?_, fun b o hb e => st _ _ (kk b o hb e)⟩
        rw [hp]
        unfold pick1
        rw [if_neg e1, if_neg e2, List.append_nil]
        exact hdp.keep (KeepO.of st)
  · rintro σ H' ⟨y3, y4, us, rfl, hu, hdp, kk⟩
    have e1 : fs.take (fs.map V.str).length = fs := by rw [List.length_map, List.take_length]
    have e2 : rest.take (fs.map V.str).length = rest := by rw [List.length_map, hfit.len, List.take_length]
    rw [e1, e2] at hdp
    refine ⟨.ref fo, rfl, q H' fo us (fun b o e => kk _ _ (ne_of_none e nfo) (s2 _ _ e)) nfo hu (hdp.mono fun _ h => h.1)⟩
end
end L10

namespace L10
open PySem PySem.Spec PyProof.Rows L2 GR AD RZ WX
/-! ### expressions among any data -/
abbrev W2 : List Str := ["free", "bound"]
/-- what an expression of good form contains -/
def kidsE : PyData → List PyData
  | .tuple (.str w :: r) => (match look w with | some fs => pick W2 fs r | none => [])
  | _ => []
mutual
/-- its size, and that its texts are short -/
def sz : PyData → Nat
  | .tuple ds => 1 + szs ds
  | _ => 1
def szs : List PyData → Nat
  | [] => 0
  | d :: ds => sz d + szs ds
end
mutual
def shB : PyData → Bool
  | .tuple ds => shBs ds
  | .str z => decide (z.length ≤ 1000) && PyData.strOk z
  | _ => true
def shBs : List PyData → Bool
  | [] => true
  | d :: ds => shB d && shBs ds
end
theorem shBs_mem : ∀ {ds : List PyData}, shBs ds = true → ∀ d, d ∈ ds → shB d = true
  | [], _, d, h => (nomatch h)
  | x :: ds, h, d, hd => by
    rw [shBs, Bool.and_eq_true] at h
    rcases List.mem_cons.mp hd with rfl | hd
    · exact h.1
    · exact shBs_mem h.2 d hd
theorem shB_sh {d : PyData} (h : shB d = true) : Sh d := fun z e => by
  subst e
  rw [shB, Bool.and_eq_true] at h
  exact ⟨of_decide_eq_true h.1, h.2⟩
theorem shB_items {d : PyData} (h : shB d = true) : ∀ y, y ∈ items d → shB y = true := by
  cases d with
  | tuple ds => exact shBs_mem (by rw [shB] at h; exact h)
  | _ => exact fun y hy => (nomatch hy)
theorem sz_pos : ∀ d : PyData, 1 ≤ sz d
  | .tuple ds => by rw [sz]; omega
  | .none => Nat.le_refl 1
  | .bool _ => Nat.le_refl 1
  | .int _ => Nat.le_refl 1
  | .str _ => Nat.le_refl 1
  | .list _ => Nat.le_refl 1
  | .dict _ => Nat.le_refl 1
theorem szs_append : ∀ a b : List PyData, szs (a ++ b) = szs a + szs b
  | [], b => by rw [List.nil_append, szs, Nat.zero_add]
  | x :: a, b => by rw [List.cons_append, szs, szs, szs_append a b]; omega
theorem szs_len : ∀ a : List PyData, a.length ≤ szs a
  | [] => Nat.zero_le _
  | x :: a => by
    have := szs_len a
    have := sz_pos x
    rw [List.length_cons, szs]
    omega
theorem szs_items : ∀ d : PyData, szs (items d) ≤ sz d
  | .tuple ds => by rw [items, sz]; omega
  | .none => Nat.zero_le _
  | .bool _ => Nat.zero_le _
  | .int _ => Nat.zero_le _
  | .str _ => Nat.zero_le _
  | .list _ => Nat.zero_le _
  | .dict _ => Nat.zero_le _
theorem szs_pick (W : List Str) : ∀ (fs : List Str) (ds : List PyData), szs (pick W fs ds) ≤ szs ds
  | [], _ => by rw [pick]; exact Nat.zero_le _; all_goals simp
  | f :: fs, [] => by rw [pick]; exact Nat.zero_le _; all_goals simp
  | f :: fs, d :: ds => by
    have h1 := szs_pick W fs ds
    have h2 := szs_items d
    rw [pick, szs_append, szs]
    split
    · omega
    · split
      · rw [szs, szs]; omega
      · rw [szs]; omega
theorem pick_sh (W : List Str) : ∀ {fs : List Str} {ds : List PyData}, (∀ d, d ∈ ds → shB d = true) → ∀ y, y ∈ pick W fs ds → shB y = true
  | [], _, _, y, hy => by rw [pick] at hy; exact (nomatch hy); all_goals simp
  | f :: fs, [], _, y, hy => by rw [pick] at hy; exact (nomatch hy); all_goals simp
  | f :: fs, d :: ds, h, y, hy => by
    rw [pick] at hy
    rcases List.mem_append.mp hy with hy | hy
    · split at hy
      · exact shB_items (h d List.mem_cons_self) y hy
      · split at hy
        · rw [List.mem_singleton.mp hy]
          exact h d List.mem_cons_self
        · exact (nomatch hy)
    · exact pick_sh W (fun x hx => h x (List.mem_cons_of_mem _ hx)) y hy
theorem kids_sz (d : PyData) (h : hasForm d = true) : szs (kidsE d) < sz d ∧ (shB d = true → ∀ y, y ∈ kidsE d → shB y = true) ∧ ∃ w fs r, d = .tuple (.str w :: r) ∧ look w = some fs ∧ fitsAll fs r = true ∧ kidsE d = pick W2 fs r := by
  unfold hasForm at h
  split at h
  · rename_i w r
    split at h
    · rename_i fs hl
      have e : kidsE (.tuple (.str w :: r)) = pick W2 fs r := by
        show (match look w with | some fs => pick W2 fs r | none => []) = _
        rw [hl]
      refine ⟨?_, fun hs => ?_, w, fs, r, rfl, hl, h, e⟩
      · rw [e, sz, szs]
        have := szs_pick W2 fs r
        omega
      · rw [e]
        rw [shB] at hs
        exact pick_sh W2 fun d hd => shBs_mem hs d (List.mem_cons_of_mem _ hd)
    · cases h
  · cases h
/-- an expression, looked at n deep -/
def isE : Nat → PyData → Bool
  | 0, _ => false
  | n + 1, d => hasForm d && (kidsE d).all (isE n)
theorem sz_mem : ∀ {l : List PyData} {y : PyData}, y ∈ l → sz y ≤ szs l
  | x :: l, y, h => by
    rw [szs]
    rcases List.mem_cons.mp h with rfl | h
    · omega
    · have := sz_mem h
      omega
theorem isE_same : ∀ {n m : Nat} {d : PyData}, sz d ≤ n → sz d ≤ m → isE n d = isE m d
  | 0, _, d, h, _ => by have := sz_pos d; omega
  | _ + 1, 0, d, _, h => by have := sz_pos d; omega
  | n + 1, m + 1, d, h1, h2 => by
    rw [isE, isE]
    cases hf : hasForm d with
    | false => rfl
    | true =>
      have hk := (kids_sz d hf).1
      rw [Bool.true_and, Bool.true_and, Bool.eq_iff_iff, List.all_eq_true, List.all_eq_true]
      have key : ∀ y, y ∈ kidsE d → isE n y = isE m y := fun y hy => by
        have := sz_mem hy
        exact isE_same (by omega) (by omega)
      exact ⟨fun g y hy => by rw [← key y hy]; exact g y hy, fun g y hy => by rw [key y hy]; exact g y hy⟩
def isX (d : PyData) : Bool := isE (sz d) d
theorem isX_step (d : PyData) : isX d = (hasForm d && (kidsE d).all isX) := by
  unfold isX
  have hp := sz_pos d
  obtain ⟨n, hn⟩ : ∃ n, sz d = n + 1 := ⟨sz d - 1, by omega⟩
  rw [hn, isE]
  cases hf : hasForm d with
  | false => rfl
  | true =>
    have hk := (kids_sz d hf).1
    rw [Bool.true_and, Bool.true_and, Bool.eq_iff_iff, List.all_eq_true, List.all_eq_true]
    have key : ∀ y, y ∈ kidsE d → isE n y = isE (sz y) y := fun y hy => by
      have := sz_mem hy
      exact isE_same (by omega) (Nat.le_refl _)
    exact ⟨fun g y hy => by rw [← key y hy]; exact g y hy, fun g y hy => by rw [key y hy]; exact g y hy⟩
theorem fits_of : ∀ {fs : List Str} {ds : List PyData}, fitsAll fs ds = true → Fits fs ds
  | [], [], _ => .nil
  | [], _ :: _, h => by cases h
  | _ :: _, [], h => by cases h
  | f :: fs, d :: ds, h => by
    have h' : (fitsD f d && fitsAll fs ds) = true := h
    rw [Bool.and_eq_true] at h'
    refine .cons (fun e => ?_) (fits_of h'.2)
    subst e
    have := h'.1
    unfold fitsD at this
    rw [if_neg (by decide), if_neg (by decide), if_neg (by decide), if_pos rfl] at this
    cases d with
    | tuple xs => exact ⟨xs, rfl⟩
    | _ => cases this
end L10

namespace L10
open PySem PySem.Spec PyProof.Rows L2 GR AD RZ WX
theorem dd_split {K : PySem.W.Frag} {ok : Addr → Prop} {H : Hp} : ∀ {us ws : List V} {xs : List PyData}, DdAll K ok H (us ++ ws) xs → ∃ d1 d2, xs = d1 ++ d2 ∧ DdAll K ok H us d1 ∧ DdAll K ok H ws d2
  | [], ws, xs, h => ⟨[], xs, rfl, .nil, h⟩
  | u :: us, ws, _, .cons h t => by
    obtain ⟨d1, d2, rfl, h1, h2⟩ := dd_split t
    exact ⟨_ :: d1, d2, rfl, .cons h h1, h2⟩
theorem dd_last {K : PySem.W.Frag} {ok : Addr → Prop} {H : Hp} {us : List V} {xs : List PyData} (h : DdAll K ok H us xs) (hne : us ≠ []) : ∃ y d xs', xs = xs' ++ [d] ∧ us[us.length - 1]? = some y ∧ DdAll K ok H us.dropLast xs' ∧ Dd K ok H y d := by
  have e := List.dropLast_concat_getLast hne
  rw [← e] at h
  obtain ⟨d1, d2, rfl, g1, g2⟩ := dd_split h
  cases g2 with
  | cons g3 g4 =>
  cases g4
  refine ⟨us.getLast hne, _, d1, rfl, ?_, g1, g3⟩
  rw [← List.getLast?_eq_getElem?, List.getLast?_eq_getLast hne]
section
variable {P : Program} {w : World} {K : PySem.W.Frag} {mg : Str → Option Value} {base : Heap}
abbrev s_contained : Stmt := topS 21
theorem sc_contained : FnScope ["expression"] ["expression"] (defScope s_contained) := ⟨rfl, rfl, rfl, by decide +kernel, rfl, by decide +kernel, by decide +kernel⟩
def sp_contained (K : PySem.W.Frag) : Sp := fun vs H Q _ => ∃ (v : V) (d : PyData) (ok : Addr → Prop), vs = [v] ∧ Dd K ok H v d ∧ hasForm d = true ∧ (kidsE d).length ≤ 4000000 ∧ ∀ H' p us, Same H H' → H p = none → H' p = some (.lst us) → DdAll K ok H' us (kidsE d) → Q (.ref p) H'
theorem ok_contained {f fc aP : Addr} {fd dc : FuncData} {k : Nat} (F : Fun K "contained" "contained" s_contained f fd) (Gc : FnOk P w K mg base CX0 k fc dc ["expression", "wanted"] (sp_contained_of K)) (gc : mg "contained_of" = some (.ref fc)) (Kc : PySem.W.keepIn K (.ref fc) = true) (bc : Binds K dc ["expression", "wanted"] [])
    (mALL : mg "ALL_PARTS" = some (.ref aP)) (TA : KTx K aP W2) : FnOk P w K mg base CX0 (k + 1) f fd ["expression"] (sp_contained K) := by
  have nd := sc_contained.nd
  refine F.ok sc_contained (fun vs H Q E h => ?_) (fun cdv A outer s H vs Q E hr h => ?_)
  · obtain ⟨v, d, ok, rfl, _⟩ := h
    rfl
  obtain ⟨v, d, ok, rfl, hd, hf, hl, q⟩ := h
  refine ⟨_, (pss_one (ps_ret (pe_call Gc hr (by rfl) gc Kc bc .nil pass0 (pa_cons (pv 0) (pa_cons (pe_glob (v := .ref aP) rfl mALL rfl) pa_nil))))), ?_⟩
  obtain ⟨_, _, w', fs, r, rfl, hlk, hfit, hk⟩ := kids_sz d hf
  rw [hk] at q hl
  cases hd with
  | tup hs ha =>
  exact ⟨_, rfl, _, aP, w', fs, W2, r, ok, rfl, .tup hs ha, look_some hlk, fits_of hfit, hl, TA H, q⟩
abbrev s_is_expression : Stmt := topS 17
theorem sc_is_expression : FnScope ["thing", "todo", "part"] ["thing"] (defScope s_is_expression) := ⟨rfl, rfl, rfl, by decide +kernel, rfl, by decide +kernel, by decide +kernel⟩
/-- what is still to do: the list at td -/
def XInv (K : PySem.W.Frag) (ok : Addr → Prop) (d : PyData) (v : V) (td : Addr) (H0 : Hp) (m : Nat) (σ : L2.St) (H : Hp) : Prop :=
  ∃ (z : Option V) (us : List V) (xs : List PyData), σ = [some v, some (.ref td), z] ∧ H td = some (.lst us) ∧ DdAll K (fun b => ok b ∧ b ≠ td) H us xs ∧ (∀ y, y ∈ xs → shB y = true) ∧ m = szs xs ∧ m ≤ 4000000 ∧ isX d = xs.all isX ∧ (∀ b o, b ≠ td → H0 b = some o → H b = some o)
def sp_isx (K : PySem.W.Frag) : Sp := fun vs H Q _ => ∃ (v : V) (d : PyData) (ok : Addr → Prop), vs = [v] ∧ Dd K ok H v d ∧ shB d = true ∧ sz d ≤ 4000000 ∧ ∀ H', Same H H' → Q (.bl (isX d)) H'
theorem ok_is_expression {f fh fc : Addr} {fd dh dc : FuncData} {k : Nat} (F : Fun K "is_expression" "is_expression" s_is_expression f fd) (Gh : FnOk P w K mg base CX0 k fh dh ["thing"] (sp_hf K)) (gh : mg "has_form" = some (.ref fh)) (Kh : PySem.W.keepIn K (.ref fh) = true) (bh : Binds K dh ["thing"] [])
    (Gc : FnOk P w K mg base CX0 k fc dc ["expression"] (sp_contained K)) (gc : mg "contained" = some (.ref fc)) (Kc : PySem.W.keepIn K (.ref fc) = true) (bc : Binds K dc ["expression"] []) :
    FnOk P w K mg base CX0 (k + 1) f fd ["thing"] (sp_isx K) := by
  have nd := sc_is_expression.nd
  refine F.ok sc_is_expression (fun vs H Q E h => ?_) (fun cdv A outer s H vs Q E hr h => ?_)
  · obtain ⟨v, d, ok, rfl, _⟩ := h
    rfl
  obtain ⟨v, d, ok, rfl, hd, hsh, hsz, q⟩ := h
  refine ⟨_, (pss_cons (ps_set (i := 1) nd rfl (.inl rfl) (pe_lst (pa_cons (pv 0) pa_nil)))
      (pss_cons (ps_while PassesOwn.never (pt_truth (pv 1) (fun _ => rfl))
      (pss_cons (ps_set (i := 2) nd rfl (.inl rfl) (pe_bm0 PySem.F.plainAttrs_list PySem.F.slot_list_pop PySem.F.type_list_pop mt_pop (pv 1)))
        (pss_cons (ps_if (pt_not (pt_val (pe_call Gh hr (by rfl) gh Kh bh .nil pass0 (pa_cons (pv 2) pa_nil))))
        (pss_one (ps_ret pe_bl))
        pss_nil)
        (pss_one (ps_expr (pe_bm PySem.F.plainAttrs_list PySem.F.slot_list_extend PySem.F.type_list_extend mt_extend (pv 1) (pa_cons (pe_call Gc hr (by rfl) gc Kc bc .nil pass0 (pa_cons (pv 2) pa_nil)) pa_nil)))))))
      (pss_one (ps_ret pe_bl)))), ?_⟩
  refine ⟨v, rfl, small_le (show 1 ≤ 1000 by decide), fun td ntd => ?_⟩
  have sl := same_upd (o := .lst [v]) ntd
  refine ⟨XInv K ok d v td H, ⟨szs [d], none, [v], [d], rfl, upd_same, .cons ((hd.off ntd).keep (KeepO.of sl)) .nil, ?_, rfl, ?_, ?_, fun b o _ e => sl _ _ e⟩, ?_⟩
  · intro y hy
    rw [List.mem_singleton.mp hy]
    exact hsh
  · rw [szs, szs]
    omega
  · rw [List.all_cons, List.all_nil, Bool.and_true]
  · rintro m σ H' ⟨z, us, xs, rfl, hu, hA, hE, rfl, hm, hf, kk⟩
    have lu := hA.len
    have fin : ∀ H2, (∀ b o, b ≠ td → H' b = some o → H2 b = some o) → Same H H2 := fun H2 s2 b o e => s2 _ _ (ne_of_none e ntd) (kk _ _ (ne_of_none e ntd) e)
    refine ⟨.ref td, rfl, !us.isEmpty, .inl ⟨us, .inl (.inl hu), rfl⟩, ?_⟩
    cases hus : us with
    | nil =>
      subst hus
      cases hA
      rw [List.all_nil] at hf
      refine iteF ?_
      have := q H' (fin H' fun b o _ e => e)
      rw [hf] at this
      exact this
    | cons u0 ur =>
      have hne : us ≠ [] := by
        rw [hus]
        exact List.cons_ne_nil _ _
      rw [← hus]
      have full : (!us.isEmpty) = true := by
        rw [hus]
        rfl
      rw [full]
      obtain ⟨y, e, xs', rfl, hy, hA', hyd⟩ := dd_last hA hne
      have hsy := hE e (List.mem_append_right _ (List.mem_singleton.mpr rfl))
      have hE' : ∀ y, y ∈ xs' → shB y = true := fun y hy => hE y (List.mem_append_left _ hy)
      have hpos := sz_pos e
      have hse : szs (xs' ++ [e]) = szs xs' + sz e := by rw [szs_append, szs, szs]; omega
      rw [hse] at hm
      rw [List.all_append, List.all_cons, List.all_nil, Bool.and_true, isX_step e] at hf
      refine iteT ⟨fun σ' H'' => ∃ m', m' < szs (xs' ++ [e]) ∧ XInv K ok d v td H m' σ' H'', fun σ' H'' h => h, ?_⟩
      refine ⟨.ref td, rfl, .inl ⟨rfl, _, .inl (.inl hu)⟩, td, us, y, rfl, rfl, hu, hy, ?_⟩
      have ko1 : KeepO (fun b => ok b ∧ b ≠ td) H' (upd H' td (.lst us.dropLast)) := ⟨(KeepT.lst hu).1, (KeepT.lst hu).2, fun b o hb e => by rw [upd_ne hb.2]; exact e⟩
      have hu1 : upd H' td (.lst us.dropLast) td = some (.lst us.dropLast) := upd_same
      have keep1 : ∀ b o, b ≠ td → H' b = some o → upd H' td (.lst us.dropLast) b = some o := fun b o hb e => by
        rw [upd_ne hb]
        exact e
      have hA1 := hA'.keep ko1
      have hyd1 := hyd.keep ko1
      revert hu1 keep1 hA1 hyd1
      generalize upd H' td (.lst us.dropLast) = H1
      intro hu1 keep1 hA1 hyd1
      refine ⟨y, rfl, y, e, _, rfl, hyd1, fun ds he z hz => shB_sh (shBs_mem (by subst he; rw [shB] at hsy; exact hsy) z hz), fun H2 s2 => ⟨_, rfl, ?_⟩⟩
      have keep2 : ∀ b o, b ≠ td → H' b = some o → H2 b = some o := fun b o hb e => s2 _ _ (keep1 b o hb e)
      cases hff : hasForm e with
      | false =>
        rw [hff, Bool.false_and, Bool.and_false] at hf
        have := q H2 (fin H2 keep2)
        rw [hf] at this
        exact iteT this
      | true =>
        rw [hff, Bool.true_and, ← List.all_append] at hf
        obtain ⟨hk1, hk2, _⟩ := kids_sz e hff
        have hkl := szs_len (kidsE e)
        have hA2 := hA1.keep (KeepO.of s2)
        have hu2 := s2 _ _ hu1
        refine iteF ⟨.ref td, rfl, .inl ⟨rfl, _, .inl (.inl hu2)⟩, y, rfl, y, e, _, rfl, hyd1.keep (KeepO.of s2), hff, by omega, fun H3 p us2 s3 np hp hus2 => ?_⟩
        have htd3 := s3 _ _ hu2
        have l1 := hA2.len
        have l2 := hus2.len
        have hxl := szs_len xs'
        have ko3 : KeepO (fun b => ok b ∧ b ≠ td) H3 (upd H3 td (.lst (us.dropLast ++ us2))) := ⟨(KeepT.lst htd3).1, (KeepT.lst htd3).2, fun b o hb e => by rw [upd_ne hb.2]; exact e⟩
        refine ⟨td, p, us.dropLast, us2, rfl, rfl, htd3, hp, ?_, szs (xs' ++ kidsE e), ?_, some y, us.dropLast ++ us2, xs' ++ kidsE e, rfl, upd_same, ?_, ?_, rfl, ?_, hf, fun b o hb e => ?_⟩
        · rw [l1, l2]
          exact Nat.le_trans (show _ ≤ 8000000 by omega) (by rw [sizeLine_eq]; decide)
        · rw [szs_append, hse]
          omega
        · exact ((hA2.keep (KeepO.of s3)).keep ko3).app (hus2.keep ko3)
        · intro z hz
          rcases List.mem_append.mp hz with hz | hz
          · exact hE' z hz
          · exact hk2 hsy z hz
        · rw [szs_append]
          omega
        · rw [upd_ne hb]
          exact s3 _ _ (keep2 b o hb (kk _ _ hb e))
end
end L10

namespace L10
open PySem PySem.Spec PyProof.Rows L2 GR AD RZ WX
/-! ### what is true of each part of an expression -/
theorem kidsE_sz (d : PyData) : szs (kidsE d) < sz d := by
  unfold kidsE
  split
  · rename_i w r
    rw [sz, szs]
    split
    · have := szs_pick W2 ‹_› r
      omega
    · rw [szs]
      omega
  · exact Nat.lt_of_lt_of_le (show szs [] < 1 by rw [szs]; omega) (sz_pos d)
def allE (q : PyData → Bool) : Nat → PyData → Bool
  | 0, _ => true
  | n + 1, d => q d && (kidsE d).all (allE q n)
theorem allE_same {q : PyData → Bool} : ∀ {n m : Nat} {d : PyData}, sz d ≤ n → sz d ≤ m → allE q n d = allE q m d
  | 0, _, d, h, _ => by have := sz_pos d; omega
  | _ + 1, 0, d, _, h => by have := sz_pos d; omega
  | n + 1, m + 1, d, h1, h2 => by
    have hk := kidsE_sz d
    rw [allE, allE]
    congr 1
    rw [Bool.eq_iff_iff, List.all_eq_true, List.all_eq_true]
    have key : ∀ y, y ∈ kidsE d → allE q n y = allE q m y := fun y hy => by
      have := sz_mem hy
      exact allE_same (by omega) (by omega)
    exact ⟨fun g y hy => by rw [← key y hy]; exact g y hy, fun g y hy => by rw [key y hy]; exact g y hy⟩
def allX (q : PyData → Bool) (d : PyData) : Bool := allE q (sz d) d
theorem allX_step (q : PyData → Bool) (d : PyData) : allX q d = (q d && (kidsE d).all (allX q)) := by
  have hp := sz_pos d
  have hk := kidsE_sz d
  unfold allX
  obtain ⟨n, hn⟩ : ∃ n, sz d = n + 1 := ⟨sz d - 1, by omega⟩
  rw [hn, allE]
  congr 1
  rw [Bool.eq_iff_iff, List.all_eq_true, List.all_eq_true]
  have key : ∀ y, y ∈ kidsE d → allE q n y = allE q (sz y) y := fun y hy => by
    have := sz_mem hy
    exact allE_same (by omega) (Nat.le_refl _)
  exact ⟨fun g y hy => by rw [← key y hy]; exact g y hy, fun g y hy => by rw [key y hy]; exact g y hy⟩
theorem isX_form {d : PyData} (h : isX d = true) : hasForm d = true := by
  rw [isX_step, Bool.and_eq_true] at h
  exact h.1
theorem isX_kids {d : PyData} (h : isX d = true) : ∀ y, y ∈ kidsE d → isX y = true := by
  rw [isX_step, Bool.and_eq_true, List.all_eq_true] at h
  exact h.2
theorem fits_flat : ∀ {fs : List Str} {r : List PyData}, fitsAll fs r = true → (∀ f, f ∈ fs → f ∈ (["value", "name", "position", "extra", "free", "bound"] : List Str)) → (∀ y, y ∈ pick W2 fs r → flatD y = true) → flatDs r = true
  | [], [], _, _, _ => by rw [flatDs]
  | [], _ :: _, h, _, _ => by cases h
  | _ :: _, [], h, _, _ => by cases h
  | f :: fs, d :: ds, h, hm, hk => by
    have h' : (fitsD f d && fitsAll fs ds) = true := h
    rw [Bool.and_eq_true] at h'
    have hf := hm f List.mem_cons_self
    rw [pick] at hk
    have ih := fits_flat h'.2 (fun g hg => hm g (List.mem_cons_of_mem _ hg)) (fun y hy => hk y (List.mem_append_right _ hy))
    rw [flatDs, ih, Bool.and_true]
    have h1 := h'.1
    unfold fitsD at h1
    simp only [List.mem_cons, List.not_mem_nil, or_false] at hf
    rcases hf with rfl | rfl | rfl | rfl | rfl | rfl
    · rw [if_pos rfl] at h1
      cases d with
      | int i => rw [flatD]
      | _ => cases h1
    · rw [if_neg (by decide), if_pos rfl] at h1
      cases d with
      | str z => rw [flatD]
      | _ => cases h1
    · rw [if_neg (by decide), if_neg (by decide), if_pos rfl] at h1
      cases d with
      | int i => rw [flatD]
      | _ => cases h1
    · rw [if_neg (by decide), if_neg (by decide), if_neg (by decide), if_pos rfl] at h1
      cases d with
      | tuple xs =>
        rw [flatD]
        exact flatDs_of fun y hy => hk y (List.mem_append_left _ (by rw [if_pos rfl]; exact hy))
      | _ => cases h1
    · exact hk d (List.mem_append_left _ (by rw [if_neg (by decide), if_pos (by decide)]; exact List.mem_singleton.mpr rfl))
    · exact hk d (List.mem_append_left _ (by rw [if_neg (by decide), if_pos (by decide)]; exact List.mem_singleton.mpr rfl))
theorem table_kinds : ∀ p, p ∈ table → ∀ f, f ∈ p.2 → f ∈ (["value", "name", "position", "extra", "free", "bound"] : List Str) := by decide
theorem flat_of_sz : ∀ (n : Nat) {d : PyData}, sz d ≤ n → isX d = true → flatD d = true
  | 0, d, h, _ => by have := sz_pos d; omega
  | n + 1, d, h, hx => by
    obtain ⟨hlt, _, w, fs, r, rfl, lk, hfit, ek⟩ := kids_sz d (isX_form hx)
    rw [flatD, flatDs, flatD, Bool.true_and]
    refine fits_flat hfit (table_kinds _ (look_some lk)) fun y hy => ?_
    rw [← ek] at hy
    have := sz_mem hy
    exact flat_of_sz n (by omega) (isX_kids hx y hy)
theorem isX_flat {d : PyData} (h : isX d = true) : flatD d = true := flat_of_sz (sz d) (Nat.le_refl _) h
mutual
theorem dd_of {K : PySem.W.Frag} {ok : Addr → Prop} {H : Hp} : ∀ (x : PyData) (v : V), flatD x = true → Dp K H v x → Dd K ok H v x
  | .none, _, _, h => by cases h; exact .non
  | .bool b, _, _, h => by cases h; exact .bl b
  | .int i, _, _, h => by cases h; exact .int i
  | .str z, _, _, h => by cases h; exact .str z
  | .tuple ds, _, hf, h => by
    cases h with
    | tup h1 h2 => exact .tup h1 (dd_ofs ds _ (by rw [flatD] at hf; exact hf) h2)
  | .list ds, _, hf, h => by simp only [flatD, Bool.false_eq_true] at hf
  | .dict ds, _, hf, h => by cases h
theorem dd_ofs {K : PySem.W.Frag} {ok : Addr → Prop} {H : Hp} : ∀ (xs : List PyData) (vs : List V), flatDs xs = true → DpAll K H vs xs → DdAll K ok H vs xs
  | [], _, _, h => by cases h; exact .nil
  | x :: xs, _, hf, h => by
    rw [flatDs, Bool.and_eq_true] at hf
    cases h with
    | cons h1 h2 => exact .cons (dd_of x _ hf.1 h1) (dd_ofs xs _ hf.2 h2)
end
mutual
theorem dp_of {K : PySem.W.Frag} {ok : Addr → Prop} {H : Hp} : ∀ (x : PyData) (v : V), flatD x = true → Dd K ok H v x → Dp K H v x
  | .none, _, _, h => by cases h; exact .non
  | .bool b, _, _, h => by cases h; exact .bl b
  | .int i, _, _, h => by cases h; exact .int i
  | .str z, _, _, h => by cases h; exact .str z
  | .tuple ds, _, hf, h => by
    cases h with
    | tup h1 h2 => exact .tup h1 (dp_ofs ds _ (by rw [flatD] at hf; exact hf) h2)
  | .list ds, _, hf, h => by simp only [flatD, Bool.false_eq_true] at hf
  | .dict ds, _, hf, h => by simp only [flatD, Bool.false_eq_true] at hf
theorem dp_ofs {K : PySem.W.Frag} {ok : Addr → Prop} {H : Hp} : ∀ (xs : List PyData) (vs : List V), flatDs xs = true → DdAll K ok H vs xs → DpAll K H vs xs
  | [], _, _, h => by cases h; exact .nil
  | x :: xs, _, hf, h => by
    rw [flatDs, Bool.and_eq_true] at hf
    cases h with
    | cons h1 h2 => exact .cons (dp_of x _ hf.1 h1) (dp_ofs xs _ hf.2 h2)
end
abbrev F0 : Addr → Prop := fun _ => False
theorem isXs_flat {l : List PyData} (h : ∀ y, y ∈ l → isX y = true) : flatDs l = true := flatDs_of fun y hy => isX_flat (h y hy)
def down (l : List PyData) : List PyData := l.flatMap kidsE
theorem down_take {xs : List PyData} {i : Nat} {x : PyData} (h : xs[i]? = some x) : down (xs.take (i + 1)) = down (xs.take i) ++ kidsE x := by
  unfold down
  rw [List.take_add_one, h, List.flatMap_append]
  simp
theorem down_take_le (xs : List PyData) (i : Nat) : (down (xs.take i)).length ≤ (down xs).length := by
  have : down xs = down (xs.take i) ++ down (xs.drop i) := by
    unfold down
    rw [← List.flatMap_append, List.take_append_drop]
  rw [this, List.length_append]
  omega
theorem down_sz : ∀ l : List PyData, szs (down l) + l.length ≤ szs l
  | [] => Nat.le_refl _
  | x :: l => by
    have ih := down_sz l
    have hk := kidsE_sz x
    unfold down at ih ⊢
    rw [List.flatMap_cons, szs_append, List.length_cons, szs]
    omega
theorem down_isX {xs : List PyData} (h : ∀ x, x ∈ xs → isX x = true) : ∀ y, y ∈ down xs → isX y = true := fun y hy => by
  obtain ⟨x, hx, hy⟩ := List.mem_flatMap.mp hy
  exact isX_kids (h x hx) y hy
/-- any walk over a list: what a turn does, told by body with what is to hold behind it -/
theorem walk_body {K : PySem.W.Frag} {a : Addr} {xs : List V} {body : V → Hp → (Hp → Prop) → Prop} {H0 : Hp} {Qd : Hp → Prop} (Pv : Nat → Hp → Prop) (h0 : Pv 0 H0) (hl : ∀ i H, i ≤ xs.length → Pv i H → SqL K H a xs)
    (hs : ∀ i x H, xs[i]? = some x → Pv i H → body x H (Pv (i + 1))) (hd : ∀ H, Pv xs.length H → Qd H) :
    ∃ W : Nat → Nat → Hp → Prop, (∃ m, W 0 m H0) ∧ ∀ i m H, W i m H →
      ((Itl K a).stop i H ∧ Qd H) ∨ ((Itl K a).go i H ∧ ∃ Nx : Hp → Prop, (∀ H', Nx H' → ∃ m', m' < m ∧ W (i + 1) m' H') ∧ ∀ x H', (Itl K a).yld i H x H' → body x H' Nx) := by
  have w := walk_list (K := K) (a := a) (xs := xs)
  refine ⟨fun i m H => m = xs.length - i ∧ i ≤ xs.length ∧ Pv i H, ⟨xs.length, rfl, Nat.zero_le _, h0⟩, ?_⟩
  rintro i m H ⟨rfl, hi, p⟩
  have q := hl i H hi p
  by_cases hlt : i < xs.length
  · refine .inr ⟨w.goes i H hlt q, Pv (i + 1), fun H' p' => ⟨xs.length - (i + 1), by omega, rfl, hlt, p'⟩, fun x H' y => ?_⟩
    obtain ⟨rfl, hx⟩ := w.yields i H x H' hlt q y
    exact hs i x _ hx p
  · obtain rfl : i = xs.length := by omega
    exact .inl ⟨w.stops H q, hd H p⟩
section
variable {P : Program} {w : World} {K : PySem.W.Frag} {mg : Str → Option Value} {base : Heap}
abbrev s_one_deeper : Stmt := topS 24
abbrev N_one : List Str := ["expressions", "expression", "part"]
theorem sc_one_deeper : FnScope N_one ["expressions"] (defScope s_one_deeper) := ⟨rfl, rfl, rfl, by decide +kernel, rfl, by decide +kernel, by decide +kernel⟩
def sp_one_deeper (K : PySem.W.Frag) : Sp := fun vs H Q _ => ∃ (a : Addr) (us : List V) (xs : List PyData), vs = [.ref a] ∧ SqL K H a us ∧ DpAll K H us xs ∧ (∀ x, x ∈ xs → isX x = true) ∧ szs xs ≤ 4000000 ∧
  ∀ H' p us', Same H H' → H p = none → H' p = some (.lst us') → DpAll K H' us' (down xs) → Q (.ref p) H'
theorem ok_one_deeper {f fc : Addr} {fd fdc : FuncData} {k : Nat} (F : Fun K "one_deeper" "one_deeper" s_one_deeper f fd) (Gc : FnOk P w K mg base CX0 k fc fdc ["expression"] (sp_contained K)) (gc : mg "contained" = some (.ref fc)) (Kc : PySem.W.keepIn K (.ref fc) = true) (bc : Binds K fdc ["expression"] []) :
    FnOk P w K mg base CX0 (k + 1) f fd ["expressions"] (sp_one_deeper K) := by
  have nd := sc_one_deeper.nd
  refine F.ok sc_one_deeper (fun vs H Q E h => ?_) (fun cdv A outer s H vs Q E hr h => ?_)
  · obtain ⟨a, us, xs, rfl, _⟩ := h
    rfl
  obtain ⟨a, us, xs, rfl, hS, hA, hE, hlen, q⟩ := h
  refine ⟨_, (pss_one (ps_ret (pe_lc2 (own := [("expression", 1), ("part", 2)]) (vs1 := [2]) (wi1 := iList K (tCall (sp_contained K) [] E0 (tCons (tVar 1) tNil))) rfl nd (pi_list (pv 0)) (blkOk_by (N := N_one) (sc := defScope s_one_deeper) (by decide +kernel)) (by decide)
      (fun _ _ _ _ _ => (pg_name (i := 1) nd rfl (Or.inl rfl))) (fun _ _ _ _ _ => pts_nil)
      (fun _ _ _ _ _ => pi_list (pe_call Gc hr (by rfl) gc Kc bc .nil pass0 (pa_cons (pv 1) pa_nil))) (fun _ _ _ _ _ => (pg_name (i := 2) nd rfl (Or.inl rfl))) (fun _ _ _ _ _ => pts_nil)
      (fun _ _ _ _ _ => (pv 2))))), ?_⟩
  refine ⟨.ref a, rfl, a, rfl, ⟨us, hS⟩, fun D nD => ?_⟩
  have hxl := dpAll_len hA
  have hdl := down_sz xs
  have hds := szs_len (down xs)
  refine walk_body (xs := us) (fun i H' => ∃ acc, H' D = some (.lst acc) ∧ DpAll K H' acc (down (xs.take i)) ∧ Same H H') ?_ ?_ ?_ ?_
  · refine ⟨[], upd_same, ?_, same_upd nD⟩
    rw [List.take_zero]
    exact .nil
  · rintro i H' _ ⟨acc, hD, hdp, kk⟩
    exact kk.seq hS
  · rintro i v H' hv ⟨acc, hD, hdp, kk⟩
    obtain ⟨x, hx, hvx⟩ := dpAll_at hA hv
    have ex := hE x (List.mem_of_getElem? hx)
    have hsx := sz_mem (List.mem_of_getElem? hx)
    have hkx := kidsE_sz x
    have hkl := szs_len (kidsE x)
    refine ⟨rfl, yes_then ⟨v, rfl, v, x, F0, rfl, dd_of x v (isX_flat ex) (dp_keep (KeepT.of kk) _ _ (isX_flat ex) hvx), isX_form ex, by omega, fun H2 p us2 s2 np hp hu0 => ⟨p, rfl, ⟨us2, .inl (.inl hp)⟩, ?_⟩⟩⟩
    have fk : flatDs (kidsE x) = true := isXs_flat (isX_kids ex)
    have hu := dp_ofs _ _ fk hu0
    have hD2 := s2 _ _ hD
    have npD : D ≠ p := ne_of_none hD np
    have hul := dpAll_len hu
    have fd : flatDs (down (xs.take i)) = true := isXs_flat (down_isX fun y hy => hE y (List.mem_of_mem_take hy))
    have hdn := down_take hx
    have hle := down_take_le xs (i + 1)
    rw [hdn, List.length_append] at hle
    refine walk_body (xs := us2) (fun j H3 => ∃ acc', H3 D = some (.lst acc') ∧ DpAll K H3 acc' (down (xs.take i) ++ (kidsE x).take j) ∧ (∀ b o, b ≠ D → H2 b = some o → H3 b = some o)) ?_ ?_ ?_ ?_
    · refine ⟨acc, hD2, ?_, fun b o _ e => e⟩
      rw [List.take_zero, List.append_nil]
      exact dp_keepAll (KeepT.of s2) _ _ fd hdp
    · rintro j H3 _ ⟨acc', hD3, hdp3, k3⟩
      exact .inl (.inl (k3 _ _ npD.symm hp))
    · rintro j y H3 hy ⟨acc', hD3, hdp3, k3⟩
      obtain ⟨dj, hdj, hyd⟩ := dpAll_at hu hy
      have kt3 : KeepT H2 H3 := ⟨fun b us e => k3 _ _ (ne_of e hD2 (fun z => by cases z)) e, fun b o us e => k3 _ _ (ne_of e hD2 (fun z => by cases z)) e⟩
      have fdj := flatDs_at fk hdj
      have k4 : KeepT H3 (upd H3 D (.lst (acc' ++ [y]))) := KeepT.lst hD3
      have la := dpAll_len hdp3
      rw [List.length_append, List.length_take] at la
      have hj : j < (kidsE x).length := (List.getElem?_eq_some_iff.mp hdj).1
      refine ⟨rfl, yes_then ⟨y, rfl, acc', hD3, ?_, acc' ++ [y], upd_same, ?_, fun b o hb e => ?_⟩⟩
      · rw [sizeLine_eq]
        omega
      · rw [take_at hdj, ← List.append_assoc]
        exact dpAll_append (dp_keepAll k4 _ _ (flatDs_append fd (flatDs_take j fk)) hdp3) (.cons (dp_keep (kt3.trans k4) _ _ fdj hyd) .nil)
      · rw [upd_ne hb]
        exact k3 b o hb e
    · rintro H3 ⟨acc', hD3, hdp3, k3⟩
      rw [hul, List.take_length, ← hdn] at hdp3
      exact ⟨acc', hD3, hdp3, fun b o e => k3 b o (ne_of_none e nD) (s2 _ _ (kk _ _ e))⟩
  · rintro H' ⟨acc, hD, hdp, kk⟩
    rw [hxl, List.take_length] at hdp
    exact q H' D acc kk nD hD hdp
end
end L10

namespace L10
open PySem PySem.Spec PyProof.Rows L2 GR AD RZ WX
theorem all_down (q : PyData → Bool) : ∀ l : List PyData, l.all (allX q) = (l.all q && (down l).all (allX q))
  | [] => rfl
  | x :: l => by
    have ih := all_down q l
    unfold down at ih ⊢
    rw [List.all_cons, List.all_cons, List.flatMap_cons, List.all_append, ih, allX_step q x]
    cases q x <;> cases (kidsE x).all (allX q) <;> cases l.all q <;> cases (l.flatMap kidsE).all (allX q) <;> rfl
section
variable {P : Program} {w : World} {K : PySem.W.Frag} {mg : Str → Option Value} {base : Heap}
abbrev s_all_parts : Stmt := topS 25
theorem sc_all_parts : FnScope ["expression", "found", "level"] ["expression"] (defScope s_all_parts) := ⟨rfl, rfl, rfl, by decide +kernel, rfl, by decide +kernel, by decide +kernel⟩
def sp_ap (K : PySem.W.Frag) : Sp := fun vs H Q _ => ∃ (v : V) (d : PyData), vs = [v] ∧ Dp K H v d ∧ isX d = true ∧ sz d ≤ 4000000 ∧
  ∀ H' p us xs, Same H H' → H p = none → H' p = some (.lst us) → DpAll K H' us xs → (∀ y, y ∈ xs → isX y = true) → (∀ q, xs.all q = allX q d) → xs.length ≤ sz d → Q (.ref p) H'
theorem ok_all_parts {f fc : Addr} {fd fdc : FuncData} {k : Nat} (F : Fun K "all_parts" "all_parts" s_all_parts f fd) (Gc : FnOk P w K mg base CX0 k fc fdc ["expressions"] (sp_one_deeper K)) (gc : mg "one_deeper" = some (.ref fc)) (Kc : PySem.W.keepIn K (.ref fc) = true) (bc : Binds K fdc ["expressions"] []) :
    FnOk P w K mg base CX0 (k + 1) f fd ["expression"] (sp_ap K) := by
  have nd := sc_all_parts.nd
  refine F.ok sc_all_parts (fun vs H Q E h => ?_) (fun cdv A outer s H vs Q E hr h => ?_)
  · obtain ⟨v, x, rfl, _⟩ := h
    rfl
  obtain ⟨v, x, rfl, hd, hx, hsz, q⟩ := h
  refine ⟨_, (pss_cons (ps_set (i := 1) nd rfl (.inl rfl) (pe_lst pa_nil))
      (pss_cons (ps_set (i := 2) nd rfl (.inl rfl) (pe_lst (pa_cons (pv 0) pa_nil)))
      (pss_cons (ps_while PassesOwn.never (pt_truth (pv 2) (fun _ => rfl))
      (pss_cons (ps_expr (pe_bm PySem.F.plainAttrs_list PySem.F.slot_list_extend PySem.F.type_list_extend mt_extend (pv 1) (pa_cons (pv 2) pa_nil)))
        (pss_one (ps_set (i := 2) nd rfl (.inl rfl) (pe_call Gc hr (by rfl) gc Kc bc .nil pass0 (pa_cons (pv 2) pa_nil))))))
      (pss_one (ps_ret (pv 1)))))), ?_⟩
  refine ⟨Nat.zero_le _, fun fo nfo => ?_⟩
  have sf := same_upd (o := .lst []) nfo
  have hf0 : upd H fo (.lst []) fo = some (.lst []) := upd_same
  refine ⟨v, rfl, small_le (show 1 ≤ 1000 by decide), fun lv nlv => ?_⟩
  have sl0 := same_upd (o := .lst [v]) nlv
  have hfl := ne_of_none hf0 nlv
  have inv : ∀ m, ∃ I : L2.St → Hp → Prop, I = fun σ H' => ∃ (lv : Addr) (acc us : List V) (done xs : List PyData), σ = [some v, some (.ref fo), some (.ref lv)] ∧ H' fo = some (.lst acc) ∧ H' lv = some (.lst us) ∧ fo ≠ lv ∧ DpAll K H' acc done ∧ DpAll K H' us xs ∧ (∀ y, y ∈ xs → isX y = true) ∧ (∀ y, y ∈ done → isX y = true) ∧ (∀ q, (done.all q && xs.all (allX q)) = allX q x) ∧ done.length + szs xs ≤ sz x ∧ szs xs = m ∧ (∀ b o, b ≠ fo → H b = some o → H' b = some o) := fun m => ⟨_, rfl⟩
  refine ⟨fun m σ H' => ∃ (lv : Addr) (acc us : List V) (done xs : List PyData), σ = [some v, some (.ref fo), some (.ref lv)] ∧ H' fo = some (.lst acc) ∧ H' lv = some (.lst us) ∧ fo ≠ lv ∧ DpAll K H' acc done ∧ DpAll K H' us xs ∧ (∀ y, y ∈ xs → isX y = true) ∧ (∀ y, y ∈ done → isX y = true) ∧ (∀ q, (done.all q && xs.all (allX q)) = allX q x) ∧ done.length + szs xs ≤ sz x ∧ szs xs = m ∧ (∀ b o, b ≠ fo → H b = some o → H' b = some o), ⟨szs [x], ?_⟩, ?_⟩
  · refine ⟨lv, [], [v], [], [x], rfl, sl0 _ _ hf0, upd_same, hfl, .nil, .cons (dp_keep (KeepT.of (sf.trans sl0)) _ _ (isX_flat hx) hd) .nil, ?_, fun y hy => (nomatch hy), fun p => ?_, ?_, rfl, fun b o _ e => sl0 _ _ (sf _ _ e)⟩
    · intro y hy
      rw [List.mem_singleton.mp hy]
      exact hx
    · rw [List.all_nil, List.all_cons, List.all_nil, Bool.and_true, Bool.true_and]
    · rw [List.length_nil, szs, szs]
      omega
  · rintro m σ H' ⟨lv, acc, us, done, xs, rfl, hfo, hlv, hne, hA, hX, hE, hF, hL, hlen, rfl, kk⟩
    have lA := dpAll_len hA
    have lX := dpAll_len hX
    refine ⟨.ref lv, rfl, !us.isEmpty, .inl ⟨us, .inl (.inl hlv), rfl⟩, ?_⟩
    cases us with
    | nil =>
      have hx : xs = [] := by
        cases hX
        rfl
      subst hx
      refine iteF ⟨.ref fo, rfl, q H' fo acc done (fun b o e => kk b o (ne_of_none e nfo) e) nfo hfo hA hF (fun p => ?_) ?_⟩
      · rw [← hL p, List.all_nil, Bool.and_true]
      · rw [szs] at hlen
        omega
    | cons u0 ur =>
      have hpos : 0 < xs.length := by
        rw [← lX]
        exact Nat.succ_pos _
      have hxl := szs_len xs
      have hdn := down_sz xs
      have hu := upd_same (H := H') (a := fo) (o := .lst (acc ++ u0 :: ur))
      refine iteT ⟨fun σ' H'' => ∃ m', m' < szs xs ∧ ∃ (lv : Addr) (acc us : List V) (done xs : List PyData), σ' = [some v, some (.ref fo), some (.ref lv)] ∧ H'' fo = some (.lst acc) ∧ H'' lv = some (.lst us) ∧ fo ≠ lv ∧ DpAll K H'' acc done ∧ DpAll K H'' us xs ∧ (∀ y, y ∈ xs → isX y = true) ∧ (∀ y, y ∈ done → isX y = true) ∧ (∀ q, (done.all q && xs.all (allX q)) = allX q x) ∧ done.length + szs xs ≤ sz x ∧ szs xs = m' ∧ (∀ b o, b ≠ fo → H b = some o → H'' b = some o),
        fun σ' H'' z => z, ?_⟩
      refine ⟨.ref fo, rfl, .inl ⟨rfl, _, .inl (.inl hfo)⟩, .ref lv, rfl, fo, lv, acc, u0 :: ur, rfl, rfl, hfo, hlv, ?_, ?_⟩
      · rw [lA, lX, sizeLine_eq]
        omega
      have k1 : KeepT H' (upd H' fo (.lst (acc ++ u0 :: ur))) := KeepT.lst hfo
      have hlv1 : upd H' fo (.lst (acc ++ u0 :: ur)) lv = some (.lst (u0 :: ur)) := by
        rw [upd_ne hne.symm]
        exact hlv
      have fX := isXs_flat hE
      have fF := isXs_flat hF
      have hA1 := dpAll_append (dp_keepAll k1 _ _ fF hA) (dp_keepAll k1 _ _ fX hX)
      have hX1 := dp_keepAll k1 _ _ fX hX
      refine ⟨.ref lv, rfl, lv, u0 :: ur, xs, rfl, .inl (.inl hlv1), hX1, hE, by omega, fun H2 p us' s2 np hp hu' => ?_⟩
      have hfo2 := s2 _ _ hu
      refine ⟨szs (down xs), by omega, p, acc ++ u0 :: ur, us', done ++ xs, down xs, rfl, hfo2, hp, ne_of_none hu np, ?_, hu', down_isX hE, ?_, ?_, ?_, rfl, fun b o hb e => ?_⟩
      · exact dp_keepAll (KeepT.of s2) _ _ (flatDs_append fF fX) hA1
      · intro y hy
        rcases List.mem_append.mp hy with hy | hy
        · exact hF y hy
        · exact hE y hy
      · intro p
        rw [List.all_append, Bool.and_assoc, ← all_down, hL p]
      · rw [List.length_append]
        omega
      · refine s2 _ _ ?_
        rw [upd_ne hb]
        exact kk b o hb e
/-! ### plain, simple -/
abbrev aggW : List Str := ["count", "sum", "most", "first"]
/-- the table of an aggregate is named by a text -/
def plainP : PyData → Bool
  | .tuple (.str w :: r) => if w ∈ aggW then (match r with | .str t :: .tuple xs :: x :: _ => xs.isEmpty && PyData.eqv x (rowX t) | _ => false) else !decide (w = "let")
  | _ => false
def simpleP : PyData → Bool
  | .tuple (.str w :: _) => !decide (w ∈ aggW)
  | _ => false
end
end L10

namespace L10
open PySem PySem.Spec PyProof.Rows L2 GR AD RZ WX ZE
/-! ### what holds of all parts -/
theorem allX_of {q : PyData → Bool} {P : PyData → Prop} (hP : ∀ y, P y → q y = true ∧ ∀ z, z ∈ kidsE y → P z) : ∀ (n : Nat) (d : PyData), sz d ≤ n → P d → allX q d = true
  | 0, d, h, _ => by have := sz_pos d; omega
  | n + 1, d, h, hp => by
    obtain ⟨h1, h2⟩ := hP d hp
    rw [allX_step, h1, Bool.true_and, List.all_eq_true]
    intro y hy
    have := sz_mem hy
    have := kidsE_sz d
    exact allX_of hP n y (by omega) (h2 y hy)
theorem depthAll_mem : ∀ {ds : List PyData} {y : PyData}, y ∈ ds → y.depth ≤ PyData.depthAll ds
  | x :: ds, y, h => by
    rw [PyData.depthAll]
    rcases List.mem_cons.mp h with rfl | h
    · omega
    · have := depthAll_mem h
      omega
theorem pick_depth (W : List Str) : ∀ {fs : List Str} {ds : List PyData} {y : PyData}, y ∈ pick W fs ds → y.depth ≤ PyData.depthAll ds
  | [], ds, y, hy => by simp only [pick, List.not_mem_nil] at hy
  | f :: fs, [], y, hy => by simp only [pick, List.not_mem_nil] at hy
  | f :: fs, d :: ds, y, hy => by
    rw [pick] at hy
    simp only [PyData.depthAll]
    rcases List.mem_append.mp hy with hy | hy
    · split at hy
      · cases d with
        | tuple xs =>
          have := depthAll_mem (show y ∈ xs from hy)
          simp only [PyData.depth]
          omega
        | _ => exact (nomatch hy)
      · split at hy
        · rw [List.mem_singleton.mp hy]
          omega
        · exact (nomatch hy)
    · have := pick_depth W hy
      omega
theorem kidsE_depth {d y : PyData} (h : y ∈ kidsE d) : y.depth ≤ d.depth := by
  unfold kidsE at h
  split at h
  · split at h
    · have := pick_depth W2 h
      simp only [PyData.depth, PyData.depthAll]
      omega
    · exact (nomatch h)
  · exact (nomatch h)
theorem kidsE_sh {d : PyData} (hx : isX d = true) (h : shB d = true) : ∀ y, y ∈ kidsE d → shB y = true := (kids_sz d (isX_form hx)).2.1 h
/-- an expression that may be asked about -/
structure Xp (d : PyData) : Prop where
  x : isX d = true
  sh : shB d = true
  dep : d.depth < 40
  sz : sz d ≤ 4000000
theorem Xp.kids {d : PyData} (h : Xp d) : ∀ y, y ∈ kidsE d → Xp y := fun y hy => by
  have h1 := sz_mem hy
  have h2 := kidsE_sz d
  have h3 := h.sz
  exact ⟨isX_kids h.x y hy, kidsE_sh h.x h.sh y hy, Nat.lt_of_le_of_lt (kidsE_depth hy) h.dep, by omega⟩
def xpB (d : PyData) : Bool := isX d && (shB d && (decide (d.depth < 40) && decide (L10.sz d ≤ 4000000)))
theorem xp_iff {d : PyData} : xpB d = true ↔ Xp d := by
  unfold xpB
  simp only [Bool.and_eq_true, decide_eq_true_eq]
  exact ⟨fun ⟨a, b, c, e⟩ => ⟨a, b, c, e⟩, fun ⟨a, b, c, e⟩ => ⟨a, b, c, e⟩⟩
theorem Xp.all {d : PyData} (h : Xp d) : allX xpB d = true := allX_of (P := Xp) (fun y hy => ⟨xp_iff.mpr hy, hy.kids⟩) (L10.sz d) d (Nat.le_refl _) h
theorem xp_parts {xs : List PyData} {d : PyData} (h : ∀ q, xs.all q = allX q d) (hx : Xp d) : ∀ y, y ∈ xs → Xp y := fun y hy => xp_iff.mp (List.all_eq_true.mp ((h xpB).trans hx.all) y hy)
mutual
theorem lay_of : ∀ d : PyData, flatD d = true → shB d = true → d.canLay0 = true
  | .none, _, _ => by simp only [PyData.canLay0]
  | .bool b, _, _ => by simp only [PyData.canLay0]
  | .int i, _, _ => by simp only [PyData.canLay0]
  | .str z, _, h => by
    rw [shB, Bool.and_eq_true] at h
    simp only [PyData.canLay0, h.2]
  | .tuple ds, hf, h => by
    rw [flatD] at hf
    rw [shB] at h
    simp only [PyData.canLay0, lay_ofs ds hf h]
  | .list ds, hf, _ => by simp only [flatD, Bool.false_eq_true] at hf
  | .dict ds, hf, _ => by simp only [flatD, Bool.false_eq_true] at hf
theorem lay_ofs : ∀ ds : List PyData, flatDs ds = true → shBs ds = true → PyData.canLayAll0 ds = true
  | [], _, _ => by simp only [PyData.canLayAll0]
  | d :: ds, hf, h => by
    rw [flatDs, Bool.and_eq_true] at hf
    rw [shBs, Bool.and_eq_true] at h
    simp only [PyData.canLayAll0, lay_of d hf.1 h.1, lay_ofs ds hf.2 h.2, Bool.and_self]
end
theorem shaped_of {d : PyData} (hf : flatD d = true) (h : shB d = true) (hd : d.depth < 40) : SeqAt.shaped d = true := by
  unfold SeqAt.shaped
  rw [Bool.and_eq_true]
  exact ⟨lay_of d hf h, decide_eq_true (by omega)⟩
theorem Xp.shaped {d : PyData} (h : Xp d) : SeqAt.shaped d = true := shaped_of (isX_flat h.x) h.sh h.dep
/-- an aggregate, by its word -/
theorem agg_form {w : Str} {r : List PyData} (h : isX (.tuple (.str w :: r)) = true) (hw : w ∈ aggW) : ∃ t xs x r', r = .str t :: .tuple xs :: x :: r' ∧ x ∈ kidsE (.tuple (.str w :: r)) := by
  have hf := isX_form h
  have key : ∀ fs : List Str, look w = some fs → (∃ fs', fs = ("name" : Str) :: ("extra" : Str) :: ("bound" : Str) :: fs') → ∃ t xs x r', r = .str t :: .tuple xs :: x :: r' ∧ x ∈ kidsE (.tuple (.str w :: r)) := by
    rintro fs lk ⟨fs', rfl⟩
    rw [form_some lk] at hf
    match r, hf with
    | [], hf => cases hf
    | [_], hf => simp [fitsAll] at hf
    | [_, _], hf => simp [fitsAll] at hf
    | a :: b :: x :: r', hf =>
      have hf' : (fitsD "name" a && (fitsD "extra" b && (fitsD "bound" x && fitsAll fs' r'))) = true := hf
      rw [Bool.and_eq_true, Bool.and_eq_true] at hf'
      obtain ⟨h1, h2, _⟩ := hf'
      have h1' : isN a = true := h1
      have h2' : isTu b = true := h2
      cases a with
      | str t =>
        cases b with
        | tuple xs =>
          refine ⟨t, xs, x, r', rfl, ?_⟩
          have : kidsE (.tuple (.str w :: .str t :: .tuple xs :: x :: r')) = pick W2 ("name" :: "extra" :: "bound" :: fs') (.str t :: .tuple xs :: x :: r') := by
            show (match look w with | some fs => pick W2 fs _ | none => []) = _
            rw [lk]
          rw [this]
          simp only [pick]
          refine List.mem_append_right _ (List.mem_append_right _ (List.mem_append_left _ ?_))
          rw [if_neg (by decide), if_pos (by decide)]
          exact List.mem_singleton.mpr rfl
        | _ => cases h2'
      | _ => cases h1'
  simp only [aggW, List.mem_cons, List.not_mem_nil, or_false] at hw
  rcases hw with rfl | rfl | rfl | rfl
  · exact key ["name", "extra", "bound", "bound"] (by decide) ⟨_, rfl⟩
  · exact key ["name", "extra", "bound", "bound", "bound"] (by decide) ⟨_, rfl⟩
  · exact key ["name", "extra", "bound", "bound", "bound", "free"] (by decide) ⟨_, rfl⟩
  · exact key ["name", "extra", "bound", "bound", "free"] (by decide) ⟨_, rfl⟩
theorem isX_head {d : PyData} (h : isX d = true) : ∃ w r, d = .tuple (.str w :: r) := by
  obtain ⟨_, _, w, fs, r, rfl, _⟩ := kids_sz d (isX_form h)
  exact ⟨w, r, rfl⟩
theorem plain_agg {o t : Str} {xs : List PyData} {y : PyData} {r : List PyData} (h : o ∈ aggW) : plainP (.tuple (.str o :: .str t :: .tuple xs :: y :: r)) = (xs.isEmpty && PyData.eqv y (rowX t)) := if_pos h
theorem plain_no {o : Str} {r : List PyData} (h : o ∉ aggW) : plainP (.tuple (.str o :: r)) = !decide (o = "let") := if_neg h
theorem row_shaped {t : Str} (h : PyData.strOk t = true) : SeqAt.shaped (rowX t) = true := by
  have k1 : PyData.strOk "key" = true := by decide +kernel
  have k2 : PyData.strOk "cell" = true := by decide +kernel
  have k3 : PyData.strOk "in" = true := by decide +kernel
  unfold SeqAt.shaped rowX
  simp only [PyData.canLay0, PyData.canLayAll0, Bool.and_true, h, k1, k2, k3, Bool.true_and, PyData.depth, PyData.depthAll]
  exact decide_eq_true (by omega)
section
variable {P : Program} {w : World} {K : PySem.W.Frag} {mg : Str → Option Value} {base : Heap}
abbrev s_rows_of : Stmt := topS 26
theorem sc_rows_of : FnScope ["table"] ["table"] (defScope s_rows_of) := ⟨rfl, rfl, rfl, by decide +kernel, rfl, by decide +kernel, by decide +kernel⟩
def sp_rows_of (K : PySem.W.Frag) : Sp := fun vs H Q _ => ∃ t, vs = [.str t] ∧ ∀ H' v, Same H H' → Dp K H' v (rowX t) → Q v H'
theorem ok_rows_of {f : Addr} {fd : FuncData} {k : Nat} (F : Fun K "rows_of" "rows_of" s_rows_of f fd) : FnOk P w K mg base CX0 (k + 1) f fd ["table"] (sp_rows_of K) := by
  have nd := sc_rows_of.nd
  refine F.ok sc_rows_of (fun vs H Q E h => ?_) (fun cdv A outer s H vs Q E hr h => ?_)
  · obtain ⟨t, rfl, _⟩ := h
    rfl
  obtain ⟨t, rfl, q⟩ := h
  refine ⟨_, (pss_one (ps_ret (pe_tup (pa_cons pe_str (pa_cons (pv 0) (pa_cons (pe_tup (pa_cons pe_str pa_nil)) (pa_cons pe_str pa_nil))))))), ?_⟩
  refine ⟨.str t, rfl, small_le (show 1 ≤ 1000 by decide), fun p np => ⟨small_le (show 4 ≤ 1000 by decide), fun r nr => ?_⟩⟩
  have s1 := same_upd (o := .tup [.str "key"]) np
  have s2 := same_upd (o := .tup [.str "cell", .str t, .ref p, .str "in"]) nr
  refine q _ _ (s1.trans s2) (.tup (.inl (.inl upd_same)) (.cons (.str _) (.cons (.str t) (.cons (.tup (.inl (.inl (s2 _ _ upd_same))) (.cons (.str _) .nil)) (.cons (.str _) .nil)))))
abbrev s_is_plain_part : Stmt := topS 28
theorem sc_is_plain_part : FnScope ["part"] ["part"] (defScope s_is_plain_part) := ⟨rfl, rfl, rfl, by decide +kernel, rfl, by decide +kernel, by decide +kernel⟩
/-- a test of an expression -/
def sp_tx (K : PySem.W.Frag) (f : PyData → Bool) : Sp := fun vs H Q _ => ∃ (v : V) (x : PyData), vs = [v] ∧ Dp K H v x ∧ Xp x ∧ ∀ H', Same H H' → Q (.bl (f x)) H'
theorem ok_is_plain_part {f fr aA : Addr} {fd fdr : FuncData} {k : Nat} (F : Fun K "is_plain_part" "is_plain_part" s_is_plain_part f fd) (Gr : FnOk P w K mg base CX0 k fr fdr ["table"] (sp_rows_of K)) (gr : mg "rows_of" = some (.ref fr)) (Kr : PySem.W.keepIn K (.ref fr) = true) (br : Binds K fdr ["table"] [])
    (mAGG : mg "AGGREGATES" = some (.ref aA)) (T : KTx K aA aggW) : FnOk P w K mg base CX0 (k + 1) f fd ["part"] (sp_tx K plainP) := by
  have nd := sc_is_plain_part.nd
  refine F.ok sc_is_plain_part (fun vs H Q E h => ?_) (fun cdv A outer s H vs Q E hr h => ?_)
  · obtain ⟨v, x, rfl, _⟩ := h
    rfl
  obtain ⟨v, x, rfl, hd, hx, q⟩ := h
  refine ⟨_, (pss_cons (ps_if (pt_cmpR op_in_seq (pe_ix ix_tup (pv 0) pe_int (fun _ _ => rfl)) (pe_glob rfl mAGG (v := .ref aA) rfl) (by rfl))
      (pss_one (ps_ret (pe_and (pe_cmpR (op_eqT0 hr.units0) (pe_ix ix_tup (pv 0) pe_int (fun _ _ => rfl)) (pe_tup pa_nil) (nomark _)) (pe_one (pe_cmpR (op_eqD hr.units) (pe_ix ix_tup (pv 0) pe_int (fun _ _ => rfl)) (pe_call Gr hr (by rfl) gr Kr br .nil pass0 (pa_cons (pe_ix ix_tup (pv 0) pe_int (fun _ _ => rfl)) pa_nil)) (nomark _))))))
      pss_nil)
      (pss_one (ps_ret (pe_cmpR op_ne (pe_ix ix_tup (pv 0) pe_int (fun _ _ => rfl)) pe_str (nomark _))))), ?_⟩
  obtain ⟨wd, r, rfl⟩ := isX_head hx.x
  have hfl := isX_flat hx.x
  cases hd with
  | tup hS hA =>
  cases hA with
  | cons hw hA =>
  cases hw
  rename_i a vs
  refine ⟨.ref a, rfl, a, _, 0, .str wd, rfl, rfl, hS, at0, aA, _, rfl, .inr (T H), rfl, flat_strsW aggW, _, rfl, ?_⟩
  show if inV (.str wd) (aggW.map V.str) = true then _ else _
  rw [in_strs]
  refine ite2 (fun e1 => ?_) (fun e1 => ?_)
  · have e1 : wd ∈ aggW := by simpa using e1
    obtain ⟨t, xs, y, r', rfl, hk⟩ := agg_form hx.x e1
    have hy := hx.kids y hk
    have hst : PyData.strOk t = true := by
      have h1 := hx.sh
      rw [shB] at h1
      exact (shB_sh (shBs_mem h1 (.str t) (List.mem_cons_of_mem _ List.mem_cons_self)) t rfl).2
    cases hA with
    | @cons v1 vs1 d1 ds1 g1 hA =>
    cases g1
    cases hA with
    | @cons v2 vs2 d2 ds2 g2 hA =>
    cases hA with
    | @cons v3 vs3 d3 ds3 g3 hA =>
    have hq : ∀ H', Same H H' → Q (.bl (xs.isEmpty && PyData.eqv y (rowX t))) H' := fun H' s' => by
      have := q H' s'
      rw [← plain_agg (r := r') e1]
      exact this
    refine ⟨.ref a, rfl, a, _, 2, v2, rfl, rfl, hS, at2, Nat.zero_le _, fun p np => ?_⟩
    have sp := same_upd (o := .tup []) np
    cases g2 with
    | @tup b us _ hb hbs =>
    have lb := dpAll_len hbs
    have eem : us.isEmpty = xs.isEmpty := by
      cases us <;> cases xs <;> first | rfl | cases lb
    refine ⟨b, p, us, rfl, rfl, (KeepT.of sp).seqt hb, .inl (.inl upd_same), _, rfl, ?_⟩
    rw [eem]
    cases he : xs.isEmpty with
    | false =>
      rw [he, Bool.false_and] at hq
      exact iteF (hq _ sp)
    | true =>
      rw [he, Bool.true_and] at hq
      refine iteT ⟨.ref a, rfl, a, _, 3, v3, rfl, rfl, (KeepT.of sp).seqt hS, at3, .ref a, rfl, a, _, 1, .str t, rfl, rfl, (KeepT.of sp).seqt hS, at1, t, rfl, fun H' u s' hu => ?_⟩
      exact ⟨y, rowX t, dp_keep (KeepT.of (sp.trans s')) _ _ (isX_flat hy.x) g3, hu, hy.shaped, row_shaped hst, hq H' (sp.trans s')⟩
  · have e1 : wd ∉ aggW := fun z => e1 (by simpa using z)
    have := q H fun _ _ e => e
    rw [plain_no e1] at this
    refine ⟨.ref a, rfl, a, _, 0, .str wd, rfl, rfl, hS, at0, rfl, ?_⟩
    rw [show decide (V.str wd = V.str "let") = decide (wd = "let") from decide_eq_decide.mpr ⟨fun e => V.str.inj e, fun e => by rw [e]⟩]
    exact this
/-- truth values are being made into the list at D, f of each part -/
def BInv (f : PyData → Bool) (H1 : Hp) (D : Addr) (xs : List PyData) (i : Nat) (H : Hp) : Prop := H D = some (.lst (((xs.take i).map f).map V.bl)) ∧ Same H1 H
theorem BInv.start {f : PyData → Bool} {H1 : Hp} {D : Addr} {xs : List PyData} (nD : H1 D = none) : BInv f H1 D xs 0 (upd H1 D (.lst [])) := ⟨upd_same, same_upd nD⟩
theorem BInv.step {f : PyData → Bool} {H1 H H' : Hp} {D : Addr} {xs : List PyData} {i : Nat} {x : PyData} (B : BInv f H1 D xs i H) (nD : H1 D = none) (s : Same H H') (h : xs[i]? = some x) (hl : xs.length ≤ 4000000) :
    ∃ acc, H' D = some (.lst acc) ∧ acc.length < sizeLine ∧ BInv f H1 D xs (i + 1) (upd H' D (.lst (acc ++ [.bl (f x)]))) := by
  obtain ⟨hD, kk⟩ := B
  refine ⟨_, s _ _ hD, ?_, ?_, fun b o e => ?_⟩
  · rw [List.length_map, List.length_map, List.length_take, sizeLine_eq]
    omega
  · rw [upd_same, take_at h, List.map_append, List.map_append]
    rfl
  · rw [upd_ne (ne_of_none e nD)]
    exact s _ _ (kk _ _ e)
abbrev N_test : List Str := ["expression", "part"]
abbrev s_is_plain : Stmt := topS 27
theorem sc_is_plain : FnScope N_test ["expression"] (defScope s_is_plain) := ⟨rfl, rfl, rfl, by decide +kernel, rfl, by decide +kernel, by decide +kernel⟩
theorem all_map (f : PyData → Bool) (l : List PyData) : (l.map f).all id = l.all f := by
  rw [List.all_map]
  rfl
theorem ok_is_plain {f fc fp : Addr} {fd fdc fdp : FuncData} {k : Nat} (F : Fun K "is_plain" "is_plain" s_is_plain f fd) (Gc : FnOk P w K mg base CX0 k fc fdc ["expression"] (sp_ap K)) (gc : mg "all_parts" = some (.ref fc)) (Kc : PySem.W.keepIn K (.ref fc) = true) (bc : Binds K fdc ["expression"] [])
    (Gp : FnOk P w K mg base CX0 k fp fdp ["part"] (sp_tx K plainP)) (gp : mg "is_plain_part" = some (.ref fp)) (Kp : PySem.W.keepIn K (.ref fp) = true) (bp : Binds K fdp ["part"] []) (mall : mg "all" = none) : FnOk P w K mg base CX0 (k + 1) f fd ["expression"] (sp_tx K (allX plainP)) := by
  have nd := sc_is_plain.nd
  refine F.ok sc_is_plain (fun vs H Q E h => ?_) (fun cdv A outer s H vs Q E hr h => ?_)
  · obtain ⟨v, x, rfl, _⟩ := h
    rfl
  obtain ⟨v, x, rfl, hd, hx, q⟩ := h
  refine ⟨_, (pss_one (ps_ret (pe_callB (cr_all rfl) (by rfl) mall boot_all (pa_cons (pe_lc (own := [("part", 1)]) rfl nd (pi_list (pe_call Gc hr (by rfl) gc Kc bc .nil pass0 (pa_cons (pv 0) pa_nil))) (blkOk_by (N := N_test) (sc := defScope s_is_plain) (by decide +kernel)) (fun _ _ _ _ _ => (pg_name (i := 1) nd rfl (Or.inl rfl))) (fun _ _ _ _ _ => pts_nil)
      (te := tCall (sp_tx K plainP) [] E0 (tCons (tVar 1) tNil)) (fun _ _ _ _ _ => (pe_call Gp hr (by rfl) gp Kp bp .nil pass0 (pa_cons (pv 1) pa_nil)))) pa_nil)))), ?_⟩
  refine ⟨v, rfl, v, x, rfl, hd, hx.x, hx.sz, fun H1 p us xs s1 np hp hu hE hq hl => ⟨p, rfl, ⟨us, .inl (.inl hp)⟩, fun D nD => ?_⟩⟩
  have hX := xp_parts hq hx
  have lu := dpAll_len hu
  have hz := hx.sz
  refine walk_body (xs := us) (BInv plainP H1 D xs) (BInv.start nD) ?_ ?_ ?_
  · rintro i H' _ B
    exact .inl (.inl (B.2 _ _ hp))
  · rintro i y H' hy B
    obtain ⟨d, hdi, hyd⟩ := dpAll_at hu hy
    have ex := hX d (List.mem_of_getElem? hdi)
    exact ⟨rfl, yes_then ⟨y, rfl, y, d, rfl, dp_keep (KeepT.of B.2) _ _ (isX_flat ex.x) hyd, ex, fun H2 s2 => B.step nD s2 hdi (by omega)⟩⟩
  · rintro H' ⟨hD, kk⟩
    rw [lu, List.take_length] at hD
    refine ⟨D, _, rfl, .inl (.inl hD), ?_⟩
    rw [all_map, hq]
    exact q H' (s1.trans kk)
abbrev s_is_simple : Stmt := topS 30
theorem sc_is_simple : FnScope N_test ["expression"] (defScope s_is_simple) := ⟨rfl, rfl, rfl, by decide +kernel, rfl, by decide +kernel, by decide +kernel⟩
theorem ok_is_simple {f fc aA : Addr} {fd fdc : FuncData} {k : Nat} (F : Fun K "is_simple" "is_simple" s_is_simple f fd) (Gc : FnOk P w K mg base CX0 k fc fdc ["expression"] (sp_ap K)) (gc : mg "all_parts" = some (.ref fc)) (Kc : PySem.W.keepIn K (.ref fc) = true) (bc : Binds K fdc ["expression"] [])
    (mAGG : mg "AGGREGATES" = some (.ref aA)) (T : KTx K aA aggW) (mall : mg "all" = none) : FnOk P w K mg base CX0 (k + 1) f fd ["expression"] (sp_tx K (allX simpleP)) := by
  have nd := sc_is_simple.nd
  refine F.ok sc_is_simple (fun vs H Q E h => ?_) (fun cdv A outer s H vs Q E hr h => ?_)
  · obtain ⟨v, x, rfl, _⟩ := h
    rfl
  obtain ⟨v, x, rfl, hd, hx, q⟩ := h
  refine ⟨_, (pss_one (ps_ret (pe_callB (cr_all rfl) (by rfl) mall boot_all (pa_cons (pe_lc (own := [("part", 1)]) rfl nd (pi_list (pe_call Gc hr (by rfl) gc Kc bc .nil pass0 (pa_cons (pv 0) pa_nil))) (blkOk_by (N := N_test) (sc := defScope s_is_simple) (by decide +kernel)) (fun _ _ _ _ _ => (pg_name (i := 1) nd rfl (Or.inl rfl))) (fun _ _ _ _ _ => pts_nil)
      (te := tOp (rIn K true) (tOp (rIxT K) (tVar 1) (tC (.int 0))) (tC (.ref aA))) (fun _ _ _ _ _ => (pe_cmpR op_notIn_seq (pe_ix ix_tup (pv 1) pe_int (fun _ _ => rfl)) (pe_glob rfl mAGG (v := .ref aA) rfl) (by rfl)))) pa_nil)))), ?_⟩
  refine ⟨v, rfl, v, x, rfl, hd, hx.x, hx.sz, fun H1 p us xs s1 np hp hu hE hq hl => ⟨p, rfl, ⟨us, .inl (.inl hp)⟩, fun D nD => ?_⟩⟩
  have hX := xp_parts hq hx
  have lu := dpAll_len hu
  have hz := hx.sz
  refine walk_body (xs := us) (BInv simpleP H1 D xs) (BInv.start nD) ?_ ?_ ?_
  · rintro i H' _ B
    exact .inl (.inl (B.2 _ _ hp))
  · rintro i y H' hy B
    obtain ⟨d, hdi, hyd⟩ := dpAll_at hu hy
    have ex := hX d (List.mem_of_getElem? hdi)
    have hyd2 := dp_keep (KeepT.of B.2) _ _ (isX_flat ex.x) hyd
    obtain ⟨wd, r, rfl⟩ := isX_head ex.x
    cases hyd2 with
    | tup hS hA =>
    cases hA with
    | cons hw hA =>
    cases hw
    rename_i a vs
    refine ⟨rfl, yes_then ⟨.ref a, rfl, a, _, 0, .str wd, rfl, rfl, hS, at0, aA, _, rfl, .inr (T H'), rfl, flat_strsW aggW, ?_⟩⟩
    obtain ⟨acc, g1, g2, g3⟩ := B.step nD (fun _ _ e => e) hdi (by omega)
    refine ⟨acc, g1, g2, ?_⟩
    show BInv simpleP H1 D xs (i + 1) (upd H' D (.lst (acc ++ [.bl (!inV (.str wd) (aggW.map V.str))])))
    rw [in_strs]
    exact g3
  · rintro H' ⟨hD, kk⟩
    rw [lu, List.take_length] at hD
    refine ⟨D, _, rfl, .inl (.inl hD), ?_⟩
    rw [all_map, hq]
    exact q H' (s1.trans kk)
end
end L10

/-! Sets of texts that can be walked: what one more element does to the object, for any kind of key. -/
namespace TX
open PySem PySem.Spec PyProof.Rows L2
section
variable {P : Program} {w : World} {A : Around} {E : Value → Shared → Prop} {s : Shared} {a : Addr}
/-- the object at a is the same set with these entries, and its table is as good as before -/
structure Grown (h0 h : Heap) (a : Addr) (o : Obj) (t : SetTable) (l : List (Int × Value)) : Prop where
  same : Heap.SameBut a h0 h
  at' : ∃ es ep t', h.get? a = some { o with data := .set es ep t' } ∧ es.toList.Perm l ∧ t'.fits es.size = true ∧ (Ris t.place.toList → Ris t'.place.toList) ∧ t'.led = t.led
theorem got {h : Heap} {o : Obj} {es es' : Array (Int × Value)} {ep : Nat} {t t' : SetTable} (ho : h.get? a = some o) (hd : o.data = .set es ep t) :
    (h.update a (Obj.putSet es' t')).get? a = some { o with data := .set es' (ep + 1) t' } := store_at ho hd
/-- laid down, and laid anew where the table is too full -/
theorem tail {g : Bool → Sem Unit} (hg : ∀ (b : Bool) (s₁ : Shared) (Q' : Unit → Shared → Prop), Q' () s₁ → wpAny (model P w) A (g b) Q' E s₁) {o : Obj} {es es1 : Array (Int × Value)} {ep : Nat} {t t0 t2 : SetTable} (ho : s.heap.get? a = some o) (hd : o.data = .set es ep t)
    {l : List (Int × Value)} (pm : es1.toList.Perm l) (small : es1.size < scanBound) (fit : t2.fits es1.size = true) (ris : Ris t0.place.toList → Ris t2.place.toList) (led : t2.led = t0.led) {d : Bool} {R : Option Bool → Shared → Prop}
    (done : ∀ h', Grown s.heap h' a o t0 l → R (some true) { s with heap := h' }) :
    wpAny (model P w) A (do
        storeSet a es1 t2
        if (!d && t2.tooFull) = true then do
            g (relayAll t2 es1 (SetTable.grown es1.size)).2.2
            storeSet a (relayAll t2 es1 (SetTable.grown es1.size)).1 (relayAll t2 es1 (SetTable.grown es1.size)).2.1
            pure (some true)
          else pure (some true)) R E s := by
  have h1 := got (es' := es1) (t' := t2) ho hd
  have b1 := Heap.SameBut.update s.heap a (Obj.putSet es1 t2)
  apply wpAny_bind
  refine wpAny_storeSet_of ho hd ?_ (fits_of_scanBound small)
  by_cases full : (!d && t2.tooFull) = true
  · rw [if_pos full]
    have p2 := relayAll_perm t2 es1 (SetTable.grown es1.size)
    have small2 : (relayAll t2 es1 (SetTable.grown es1.size)).1.size < scanBound := by
      have := p2.length_eq
      rw [Array.length_toList, Array.length_toList] at this
      omega
    apply wpAny_bind
    refine hg _ _ _ ?_
    apply wpAny_bind
    refine wpAny_storeSet_of h1 rfl ?_ (fits_of_scanBound small2)
    exact wpAny_pure (done _ ⟨b1.trans (Heap.SameBut.update _ a _), _, _, _, (got (o := { o with data := .set es1 (ep + 1) t2 }) h1 rfl : _), p2.trans pm, relayAll_fits t2 es1 _, fun _ => relayAll_ris t2 es1 _, (relayAll_led t2 es1 _).trans led⟩)
  · rw [if_neg full]
    exact wpAny_pure (done _ ⟨b1, es1, _, t2, h1, pm, fit, ris, led⟩)

/-- one more element, or none where it is in -/
theorem add {K : Type} [DecidableEq K] {knd : PySem.KeyKind P w K} {o : Obj} {es : Array (Int × Value)} {ep : Nat} {t : SetTable} {k : K} {v : Value} {Q : Bool → Shared → Prop} (ho : s.heap.get? a = some o) (hd : o.data = .set es ep t) (hel : ElemsOf knd es.toList)
    (small : es.size + 1 < scanBound) (hf : t.fits es.size = true) (hk : knd.is k v = true) (hsc : v.scannable = true) (old : (∃ e ∈ es.toList, knd.is k e.2 = true) → Q false s)
    (new : (∀ e ∈ es.toList, knd.is k e.2 = false) → ∀ h', Grown s.heap h' a o t ((knd.hash k, v) :: es.toList) → Q true { s with heap := h' }) : wpAny (model P w) A (setAddHashed a v (knd.hash k)) Q E s := by
  unfold setAddHashed setAddHashedIn
  apply wpAny_holding
  apply wpAny_bind
  refine wpAny_setState_of ho hd hf ?_
  dsimp only
  rw [byScan_of hsc (by omega) hel]
  simp only [↓reduceIte]
  unfold setAddByScan
  apply wpAny_bind
  apply wpAny_bind
  apply wpAny_rule
  apply wpAny_bind
  refine wpAny_setScan_of hk ho hd hf hel ?_
  cases hfi : List.findIdx? (fun e => knd.is k e.2) es.toList with
  | some j =>
    dsimp only
    obtain ⟨hj, pj, _⟩ := List.findIdx?_eq_some_iff_getElem.mp hfi
    exact wpAny_pure (wpAny_pure (old ⟨_, List.getElem_mem hj, pj⟩))
  | none =>
    dsimp only
    have out : ∀ e ∈ es.toList, knd.is k e.2 = false := fun e he => by
      have := List.findIdx?_eq_none_iff.mp hfi e he
      simpa using this
    have pm : (layNew t es (knd.hash k) v).1.toList.Perm ((knd.hash k, v) :: es.toList) := by
      have := layNew_perm t es (knd.hash k) v
      rw [Array.toList_push] at this
      exact this.trans (List.perm_append_singleton _ _)
    have small1 : (layNew t es (knd.hash k) v).1.size < scanBound := by
      have := pm.length_eq
      rw [Array.length_toList, List.length_cons, Array.length_toList] at this
      omega
    have fit := layNew_fits t es (knd.hash k) v
    have ris := layNew_ris t es (knd.hash k) v
    have led := layNew_led t es (knd.hash k) v
    have wg : ∀ (b : Bool) {s₁ : Shared} {Q' : Unit → Shared → Prop}, Q' () s₁ → wpAny (model P w) A (match b with | true => rule "set.scan.the-table-gave-way" | false => pure ()) Q' E s₁ := fun b s₁ Q' q => by
      cases b
      · exact wpAny_pure q
      · exact wpAny_rule q
    generalize layNew t es (knd.hash k) v = Z at pm small1 fit ris led ⊢
    obtain ⟨es1, t1, dummy, gave⟩ := Z
    dsimp only at pm small1 fit ris led ⊢
    apply wpAny_bind
    refine wg _ ?_
    have gave' : ∀ (b : Bool) (s₁ : Shared) (Q' : Unit → Shared → Prop), Q' () s₁ → wpAny (model P w) A (match b with | true => rule "set.scan.the-table-gave-way" | false => pure ()) Q' E s₁ := fun b s₁ Q' q => wg b q
    by_cases pl : t1.plain = true
    · rw [if_pos pl]
      apply wpAny_bind
      rw [hashByValue_scannable 8 hsc]
      apply wpAny_pure
      cases plainKind v with
      | true =>
        simp only [if_true]
        refine tail gave' ho hd pm small1 fit ris led ?_
        intro h' G
        exact wpAny_pure (new out h' G)
      | false =>
        simp only [Bool.false_eq_true, if_false]
        refine tail gave' ho hd pm small1 (SetTable.fits_plain_off fit) ris led ?_
        intro h' G
        exact wpAny_pure (new out h' G)
    · rw [if_neg pl]
      apply wpAny_bind
      apply wpAny_pure
      simp only [↓reduceIte]
      refine tail gave' ho hd pm small1 fit ris led ?_
      intro h' G
      exact wpAny_pure (new out h' G)
end
end TX

/-! Sets of texts: new, one more, sorted. -/
namespace TX
open PySem PySem.Spec PyProof.Rows L2
/-- these entries are the texts l -/
structure Els (w : World) (es : List (Int × Value)) (l : List Str) : Prop where
  each : ∀ e ∈ es, ∃ x u, e.2 = Value.str x u ∧ e.1 = hashStr w x
  perm : (es.map fun e => PyProof.Rows.strOf e.2).Perm l
/-- the set of the texts l at a; it can be walked -/
def SetS (w : World) (h : Heap) (a : Addr) (l : List Str) : Prop :=
  ∃ o es ep t, h.get? a = some o ∧ o.ExactSet ∧ o.data = .set es ep t ∧ Els w es.toList l ∧ l.Nodup ∧ es.size < scanBound ∧ t.fits es.size = true ∧ Ris t.place.toList ∧ (w.params.followText "set-order" = true ∨ t.led = true)
theorem SetS.keep {w : World} {h h' : Heap} {a : Addr} {l : List Str} (R : SetS w h a l) (k : ∀ o, h.get? a = some o → h'.get? a = some o) : SetS w h' a l := by
  obtain ⟨o, es, ep, t, ho, r⟩ := R
  exact ⟨o, es, ep, t, k o ho, r⟩
theorem isStr {P : Program} {w : World} (x : Str) (u : Tok) : (PySem.strKind P w).is x (.str x u) = true := by
  show Value.isStrOf x (.str x u) = true
  simp [Value.isStrOf]
theorem Els.kind {P : Program} {w : World} {es : List (Int × Value)} {l : List Str} (G : Els w es l) : ElemsOf (PySem.strKind P w) es := by
  intro e he
  obtain ⟨x, u, e2, e1⟩ := G.each e he
  exact ⟨⟨x, by rw [e2]; exact isStr x u, e1⟩, by rw [e2]; rfl⟩
theorem Els.mem {P : Program} {w : World} {es : List (Int × Value)} {l : List Str} (G : Els w es l) (x : Str) : (∃ e ∈ es, (PySem.strKind P w).is x e.2 = true) ↔ x ∈ l := by
  rw [← G.perm.mem_iff, List.mem_map]
  constructor
  · rintro ⟨e, he, q⟩
    obtain ⟨y, u, e2, _⟩ := G.each e he
    refine ⟨e, he, ?_⟩
    rw [e2] at q ⊢
    exact (PySem.strKind P w).inj (.str y u) y x (isStr y u) q
  · rintro ⟨e, he, q⟩
    obtain ⟨y, u, e2, _⟩ := G.each e he
    refine ⟨e, he, ?_⟩
    rw [e2] at q ⊢
    rw [← q]
    exact isStr y u
theorem Els.more {P : Program} {w : World} {es es' : List (Int × Value)} {l : List Str} {x : Str} {u : Tok} (G : Els w es l) (p : es'.Perm (((PySem.strKind P w).hash x, Value.str x u) :: es)) : Els w es' (x :: l) := by
  constructor
  · intro e he
    rcases List.mem_cons.mp (p.mem_iff.mp he) with rfl | he
    · exact ⟨x, u, rfl, rfl⟩
    · exact G.each e he
  · exact (p.map _).trans (G.perm.cons x)
/-- x put in -/
def put (x : Str) (l : List Str) : List Str := if x ∈ l then l else x :: l
theorem mem_put {x y : Str} {l : List Str} : y ∈ put x l ↔ y = x ∨ y ∈ l := by
  unfold put
  by_cases h : x ∈ l
  · rw [if_pos h]
    exact ⟨.inr, fun z => z.elim (fun e => e ▸ h) id⟩
  · rw [if_neg h, List.mem_cons]
theorem put_nodup {x : Str} {l : List Str} (h : l.Nodup) : (put x l).Nodup := by
  unfold put
  by_cases q : x ∈ l
  · rw [if_pos q]
    exact h
  · rw [if_neg q]
    exact List.nodup_cons.mpr ⟨q, h⟩
theorem put_length {x : Str} {l : List Str} : (put x l).length ≤ l.length + 1 := by
  unfold put
  by_cases q : x ∈ l
  · rw [if_pos q]
    omega
  · rw [if_neg q, List.length_cons]
    exact Nat.le_refl _
section
variable {P : Program} {w : World} {A : Around} {E : Value → Shared → Prop} {s : Shared} {a : Addr} {l : List Str}
theorem SetS.typeIs (R : SetS w s.heap a l) : s.TypeIs (.ref a) "set" := by
  obtain ⟨o, es, ep, t, ho, hx, _⟩ := R
  exact ⟨o, ho, hx.1⟩
theorem call_add {x : Str} {u : Tok} {Q : Value → Shared → Prop} (R : SetS w s.heap a l) (small : l.length + 1 < scanBound) (hQ : ∀ h', Heap.SameBut a s.heap h' → SetS w h' a (put x l) → Q .none { s with heap := h', toks := s.toks + 1 }) :
    wpAny (model P w) A (call (.builtin "set.add") [.ref a, .str x u]) Q E s := by
  refine wpAny_call_entry F.slot_set_add R.typeIs F.entry_set_add ?_ (F.args_set_add_2 _ _)
  obtain ⟨o, es, ep, t, ho, hx, hd, G, nd, hb, hf, hr, hl⟩ := R
  unfold Builtin.«set.add» Builtin.Frozenset.oneOther
  simp only [List.isEmpty_nil, bind_assoc]
  unfold Builtin.Frozenset.addrOf setAdd
  apply wpAny_bind
  apply wpAny_pure
  try dsimp only
  apply wpAny_bind
  apply wpAny_pure
  try dsimp only
  apply wpAny_bind
  apply wpAny_holding
  apply wpAny_bind
  refine (PySem.strKind P w).pyHash (isStr x u) ?_
  have sz : es.size = l.length := by
    have := G.perm.length_eq
    rw [List.length_map, Array.length_toList] at this
    exact this
  refine add (s := { s with toks := s.toks + 1 }) (knd := PySem.strKind P w) (k := x) (v := .str x u) ho hd G.kind (by omega) hf (isStr x u) rfl ?_ ?_
  · intro hin
    show wpAny _ _ (ret Value.none) _ _ _
    refine wpAny_pure ⟨_, rfl, hQ s.heap (Heap.SameBut.refl a s.heap) ?_⟩
    unfold put
    rw [if_pos ((G.mem x).1 hin)]
    exact ⟨o, es, ep, t, ho, hx, hd, G, nd, hb, hf, hr, hl⟩
  · intro out h' N
    show wpAny _ _ (ret Value.none) _ _ _
    refine wpAny_pure ⟨_, rfl, hQ h' N.same ?_⟩
    have hn : x ∉ l := fun z => by
      obtain ⟨e, he, q⟩ := (G.mem (P := P) x).2 z
      rw [out e he] at q
      cases q
    unfold put
    rw [if_neg hn]
    obtain ⟨es1, ep1, t1, h1, p1, f1, r1, l1⟩ := N.at'
    have sz1 : es1.size = es.size + 1 := by
      have := p1.length_eq
      rw [Array.length_toList, List.length_cons, Array.length_toList] at this
      exact this
    exact ⟨_, es1, ep1, t1, h1, hx, rfl, G.more (P := P) p1, List.nodup_cons.mpr ⟨hn, nd⟩, by omega, f1, r1 hr, hl.imp id fun z => l1.trans z⟩
theorem fresh {h : Heap} (w : World) : SetS w (h.push { cls := .type "set", dict := none, data := .set #[] 0 (.fresh 0 0 (!w.params.followText "set-order")) }) h.objs.size [] := by
  refine ⟨_, #[], 0, _, Heap.get?_push_size _ rfl, ⟨rfl, rfl, rfl⟩, rfl, ⟨fun e he => by simp at he, .nil⟩, .nil, by decide, by rfl, .nil, ?_⟩
  show _ ∨ (!w.params.followText "set-order") = true
  cases w.params.followText "set-order"
  · exact .inr rfl
  · exact .inl rfl
/-- sorted(it) -/
theorem call_sorted {Q : Value → Shared → Prop} (R : SetS w s.heap a l) (hh : A.handled = none) (h64 : l.length < 64)
    (hQ : ∀ s' p (out : Array Value) (c : Nat) (ys : List Str), (∀ b o, s.heap.get? b = some o → s'.heap.get? b = some o) → s'.gens = s.gens → s'.os = s.os → s.heap.objs.size ≤ p → s'.heap.get? p = some (seqObj "list" out c) → StrsAre out.toList ys → ys.Perm l → sortedS ys = true → Q (.ref p) s') :
    wpAny (model P w) A (call (.builtin "sorted") [.ref a]) Q E s := by
  obtain ⟨o, es, ep, t, ho, hx, hd, G, nd, hb, hf, hr, hl⟩ := R
  refine Calls.call_function_entry kind_sorted plain_sorted entry_sorted (args_sorted1 _) ?_
  unfold Builtin.«sorted»
  apply wpAny_bind (m := checkCount "sorted" 1 1 _)
  apply wpAny_pure
  apply wpAny_bind
  refine collect_set (A := A.in1) hh ⟨o, ho, hx.1, hd⟩ hf hb hr hl fun s1 vs k1 hz g1 o1 pm => ?_
  have hS : StrsAre vs (vs.map PyProof.Rows.strOf) := strsAre_map vs fun v hv => by
    obtain ⟨e, he, rfl⟩ := List.mem_map.mp (pm.mem_iff.mp hv)
    obtain ⟨x, u, e2, _⟩ := G.each e he
    exact ⟨x, u, e2⟩
  have pl : (vs.map PyProof.Rows.strOf).Perm l := by
    have q := pm.map PyProof.Rows.strOf
    rw [List.map_map] at q
    exact q.trans G.perm
  have hv : vs.length = l.length := by
    have := pl.length_eq
    rw [List.length_map] at this
    exact this
  apply wpAny_bind
  refine wpAny_newList ?_ (by rw [hv, sizeLine_eq]; omega)
  have hL : (s1.heap.push (seqObj "list" vs.toArray 0)).get? s1.heap.objs.size = some (seqObj "list" vs.toArray 0) := Heap.get?_push_size _ rfl
  apply wpAny_bind
  apply wpAny_holding
  refine wpAny_call_entry slot_list_sort ⟨_, hL, rfl⟩ entry_list_sort (list_sort_treeK strKind_oneLt hL hS.keysOf (fun v₁ v₂ rest e => keyKind_strs (by rw [← e]; exact hS)) (by rw [hv]; exact h64) fun st' hp hs => ⟨_, rfl, ?_⟩) (args_list_sort _)
  obtain ⟨ys, y1, y2, y3⟩ := sorted_out_str hS hp hs
  obtain ⟨c, hc⟩ := sortedHeap_at (vs := vs) (out := (arrOf st').map (·.2)) hL
  refine wpAny_pure ⟨_, rfl, hQ _ s1.heap.objs.size _ c ys (fun b u e => ?_) g1 o1 hz hc y1 (y2.trans pl) y3⟩
  have q := k1 b u e
  have lt := Heap.lt_size q
  show (sortedHeap (s1.heap.push (seqObj "list" vs.toArray 0)) s1.heap.objs.size vs _).get? b = some u
  rw [sortedHeap_old (Nat.ne_of_lt lt) (by rw [size_push']; exact Nat.lt_succ_of_lt lt)]
  exact Heap.get?_push_of_some _ q
end
end TX

/-! Sets of texts as things of the hand layer: a comprehension, sorted. -/
namespace TX
open PySem PySem.Spec PyProof.Rows L2
/-- the set of the texts l at a -/
def SetSO (w : World) (a : Addr) (l : List Str) : HO := .ext fun h => SetS w h a l
theorem so_new {w : World} {P : Program} {H : Hp} {h : Heap} {a : Addr} {l : List Str} (R : SetS w h a l) : ObjOk P w H h a (SetSO w a l) := by
  have ⟨o, _, _, _, ho, _⟩ := R
  exact ⟨R, ⟨o, ho⟩, fun h1 h2 p k => SetS.keep p k⟩
section
variable {X : Cx} {pins : List (Addr × Obj)} {σ : L2.St} {H : Hp} {s : Shared} {a : Addr} {l : List Str}
theorem so_get (I : Inv X pins σ H s) (ha : H a = some (SetSO X.w a l)) : SetS X.w s.heap a l := (I.hok a _ ha).1
theorem so_add {E : Value → Shared → Prop} {x : Str} {u : Tok} {Q : Value → Shared → Prop} (I : Inv X pins σ H s) (ha : H a = some (SetSO X.w a l)) (small : l.length + 1 < scanBound)
    (h : ∀ s', Inv X pins σ (upd H a (SetSO X.w a (put x l))) s' → Q .none s') : wpAny (model X.prog X.w) X.A (call (.builtin "set.add") [.ref a, .str x u]) Q E s := by
  refine call_add (so_get I ha) small fun h' sb new => ?_
  have there : ∃ o, h'.get? a = some o := by
    have ⟨o, _, _, _, ho, _⟩ := new
    exact ⟨o, ho⟩
  exact h _ (I.write (e := a) (t' := s.toks + 1) (by rw [ha]; trivial) (.inl rfl) (fun b o hb ho => (sb.2 b hb).trans ho) there (so_new new))
/-- sorted(a set of texts), fewer than 64 -/
def rSortedSS (w : World) : List V → Hp → VK → Prop := fun vs H Q => ∃ (a : Addr) (l : List Str), vs = [V.ref a] ∧ H a = some (SetSO w a l) ∧ l.length < 64 ∧ ∀ (ys : List Str) (p : Addr), ys.Perm l → sortedS ys = true → H p = none → Q (.ref p) (upd H p (.lst (ys.map V.str)))
theorem cr_sortedSS (hc : X.calm = true) : CallR X (.builtin "sorted") (rSortedSS X.w) := by
  intro pins s σ H vs us Q I r h
  obtain ⟨a, l, rfl, ha, h64, q⟩ := h
  rw [Vals.ref1 r]
  refine call_sorted (so_get I ha) (I.ok.hd hc) h64 fun s' p out c ys k g o hp hg hi hy hs => ?_
  have hlen : (ys.map V.str).length ≤ sizeLine := by
    rw [List.length_map, hy.length_eq, sizeLine_eq]
    omega
  have hn : H p = none := I.hok.fresh hp
  have J : Inv X pins σ (upd H p (.lst (ys.map V.str))) { s with heap := s'.heap, gens := s'.gens, drawn := s'.drawn, toks := s'.toks } :=
    I.call (ch := []) (Un.laid k hp hn) (I.hok.laid k hp ⟨hlen, out.toList, c, vals_of_strs hi, hg⟩) (by rw [g]; exact I.bare) (fun _ z => nomatch z)
  have e : s' = { s with heap := s'.heap, gens := s'.gens, drawn := s'.drawn, toks := s'.toks } := by
    cases s'
    cases s
    cases o
    rfl
  rw [e]
  exact ⟨.ref p, _, J, rfl, q ys p hy hs hn⟩
end
end TX

/-! {elt for target in iter if ..}, elt a text. -/
namespace TX
open PySem PySem.Spec PyProof.Rows L2 PpSet
/-- the element goes into the set at D -/
def Into (w : World) (D : Addr) (Nx : Hp → Prop) : VK := fun y H => ∃ (z : Str) (l : List Str), y = .str z ∧ H D = some (SetSO w D l) ∧ l.length + 1 < scanBound ∧ Nx (upd H D (SetSO w D (put z l)))
/-- one turn: target, tests, element -/
def Turn (w : World) (g : TG) (tt : TT) (te : TE) (vs : List Nat) (σ : L2.St) (D : Addr) (Nx : Hp → Prop) (x : V) (H : Hp) : Prop :=
  g x (wipe σ vs) H fun σ2 H2 => wipe σ2 vs = wipe σ vs ∧ tt σ2 H2 fun b H3 => if b = true then te σ2 H3 (Into w D Nx) else Nx H3
/-- the set comprehension's reading: W i m what holds before turn i, m falls -/
def tScS (w : World) (wi : TI) (g : TG) (tt : TT) (te : TE) (vs : List Nat) : TE := fun σ H Q => wi σ H fun J H1 => ∀ D, H1 D = none → ∃ W : Nat → Nat → Hp → Prop, (∃ m, W 0 m (upd H1 D (SetSO w D []))) ∧ ∀ i m H, W i m H →
  (J.stop i H ∧ Q (.ref D) H) ∨ (J.go i H ∧ ∃ Nx : Hp → Prop, (∀ H', Nx H' → ∃ m', m' < m ∧ W (i + 1) m' H') ∧ ∀ x H', J.yld i H x H' → Turn w g tt te vs σ D Nx x H')
section
variable {X : Cx}
theorem pe_scS {elt tg iter : Expr} {ifs : List Expr} {scope : Scope} {own : List (PySem.Str × Nat)} {pos : Pos} {wi : TI} {g : TG} {tt : TT} {te : TE} (hc : X.calm = true) (hN : X.N.Nodup) (hi : PI X tg iter wi) (ok : BlkOk X.N X.env.scope scope own)
    (hg : ∀ (s : Shared) (H : Hp) (C : Addr) (cl : List (PySem.Str × Addr)) (fp : List Addr), PG (X.blk s H scope (compEnvC scope cl C X.env) fp) tg g) (ht : ∀ (s : Shared) (H : Hp) (C : Addr) (cl : List (PySem.Str × Addr)) (fp : List Addr), PTs (X.blk s H scope (compEnvC scope cl C X.env) fp) ifs tt)
    (he : ∀ (s : Shared) (H : Hp) (C : Addr) (cl : List (PySem.Str × Addr)) (fp : List Addr), PE (X.blk s H scope (compEnvC scope cl C X.env) fp) elt te) (hs : ∀ x, foldedSetIterable iter X.env x = pure x := by intro _; rfl) :
    PE X (.SetComp elt [⟨tg, iter, ifs, 0⟩] scope pos) (tScS X.w wi g tt te (own.map (·.2))) := by
  refine ⟨fun pins s σ H Q I h => ?_⟩
  rw [eval_SetComp]
  have free : ∀ y ∈ scope.names, y.2 = .free → ∃ c, X.env.cells.lookup y.1 = some c := fun y hy e => (ok.free y hy e).elim (fun k => I.ok.has _ (.inl k)) (fun k => I.ok.has _ (.inr k))
  refine wpAny_comprehension_free rfl hs (closure_ok free) ok.kind (fun y hy e => by rw [ok.uniq y hy, e]) (thn (hi.run pins s σ H _ I h) fun xv s1 hx => thn hx fun itv s2 h2 => ?_)
  obtain ⟨it, fp, tn, J, H2, e, I2, T, st2, f2, q⟩ := h2
  subst e
  refine newSet_ok (newEnv_comp ?_)
  -- the new set is tracked
  obtain ⟨D, hD⟩ : ∃ D, s2.heap.objs.size = D := ⟨_, rfl⟩
  rw [hD]
  obtain ⟨W, ⟨m0, w0⟩, turn⟩ := q D (I2.hok.fresh (Nat.le_of_eq hD))
  obtain ⟨s3, hs3⟩ : ∃ s3 : Shared, ({ s2 with heap := s2.heap.push { cls := .type "set", dict := none, data := .set #[] 0 (.fresh 0 0 (!X.w.params.followText "set-order")) } } : Shared) = s3 := ⟨_, rfl⟩
  have h3 : s3.heap = s2.heap.push { cls := .type "set", dict := none, data := .set #[] 0 (.fresh 0 0 (!X.w.params.followText "set-order")) } := by rw [← hs3]
  obtain ⟨H3, hH3⟩ : ∃ H3, upd H2 D (SetSO X.w D []) = H3 := ⟨_, rfl⟩
  have I3 : Inv X pins σ H3 s3 := by
    rw [← hs3, ← hH3]
    refine I2.laid (t' := s2.toks) (fun b o e => Heap.get?_push_of_some _ e) (Nat.le_of_eq hD) ?_
    rw [← hD]
    exact so_new (fresh X.w)
  rw [hs3]
  rw [hH3] at w0
  -- what the iterator stands upon is not tracked
  have foot : ∀ b ∈ fp, FpOk X pins H3 b ∧ b < s3.heap.objs.size := fun b hb => by
    obtain ⟨o, e, _⟩ := T.obj _ _ st2 b hb
    have lt := Heap.lt_size e
    refine ⟨⟨?_, (f2 b hb).2⟩, ?_⟩
    · rw [← hH3, upd_ne (by rw [← hD]; exact Nat.ne_of_lt lt)]
      exact (f2 b hb).1
    · rw [h3, Heap.size_push]
      exact Nat.lt_succ_of_lt lt
  have st3 : tn 0 s3.heap := T.keep _ _ _ st2 fun b _ o e => by
    rw [h3]
    exact Heap.get?_push_of_some _ e
  have I4 := block_start I3 ok hN foot
  have pg := hg s3 H3 s3.heap.objs.size (cellsFrom (s3.heap.objs.size + 1) scope.names (cloFrom X.env.cells scope.names [])) fp
  have pt := ht s3 H3 s3.heap.objs.size (cellsFrom (s3.heap.objs.size + 1) scope.names (cloFrom X.env.cells scope.names [])) fp
  have pe := he s3 H3 s3.heap.objs.size (cellsFrom (s3.heap.objs.size + 1) scope.names (cloFrom X.env.cells scope.names [])) fp
  show codeAny _ _ (.compStart (.SetComp elt [⟨tg, iter, ifs, 0⟩] scope pos) 0 (.ref it) (.ref D) (compEnvC scope (cellsFrom (s3.heap.objs.size + 1) scope.names (cloFrom X.env.cells scope.names [])) s3.heap.objs.size X.env)) _ { s3 with heap := pushCells (s3.heap.push { cls := .type "dict", data := .dict #[] }) scope.names }
  have bare : ∀ b ∈ fp, H3 b = none := fun b hb => (foot b hb).1.1
  generalize hce : compEnvC scope (cellsFrom (s3.heap.objs.size + 1) scope.names (cloFrom X.env.cells scope.names [])) s3.heap.objs.size X.env = ce at I4 pg pt pe ⊢
  have cL : ce.locals = s3.heap.objs.size := by
    subst hce
    rfl
  generalize hs4 : ({ s3 with heap := pushCells (s3.heap.push { cls := .type "dict", data := .dict #[] }) scope.names } : Shared) = s4 at I4 ⊢
  have st4 : tn 0 s4.heap := T.keep _ _ _ st3 fun b _ o e => by
    rw [← hs4]
    exact pushCells_keeps _ _ _ _ (Heap.get?_push_of_some _ e)
  -- in the block as well
  have stat : ∀ {σ' : L2.St} {H' : Hp} {s' : Shared}, Inv (X.blk s3 H3 scope ce fp) [] σ' H' s' → (∀ b ∈ fp, H' b = none) → ∀ b ∈ fp, FpOk (X.blk s3 H3 scope ce fp) [] H' b := fun {σ' H' s'} I' hn b hb =>
    ⟨hn b hb, (I'.ok.exf b hb).1, I'.ok.exfs b hb, .inl hb, fun x c e => (I'.ok.exf b hb).2 x c e, fun p hp => absurd (show p ∈ ([] : List (Addr × Obj)) ++ [] from hp) (by simp)⟩
  refine (fun (loop : codeAny (model X.prog X.w) X.A (.compLoop (.SetComp elt [⟨tg, iter, ifs, 0⟩] scope pos) 0 (.ref it) (.ref D) ce) _ s4) => codeAny_compStart_set loop (T.self X.A 0 _ _ _ st4 loop)) ?_
  refine compLoopS_any (fun n s' => ∃ i H', Inv (X.blk s3 H3 scope ce fp) [] (wipe σ (own.map (·.2))) H' s' ∧ tn i s'.heap ∧ (∀ b ∈ fp, H' b = none) ∧ W i n H') ?_ m0 ⟨0, H3, I4, st4, bare, w0⟩
  rintro n s5 ⟨i, H5, I5, st5, n5, w5⟩
  rcases turn i n H5 w5 with ⟨stop, fin⟩ | ⟨go, Nx, hNx, step⟩
  · refine thnF (T.done (X.blk s3 H3 scope ce fp) rfl rfl rfl hc i [] s5 _ H5 (fun _ _ => False) I5 (stat I5 n5) st5 stop) fun r s6 ⟨hr, I6⟩ => ?_
    subst hr
    have I7 : Inv X pins σ H5 s6 := I3.call' (ch := fp) I6.os I6.base I6.hok I6.bare fun b hb => ⟨(foot b hb).1.2.2.2.1, (foot b hb).1.2.1, (foot b hb).1.2.2.2.2.1, (foot b hb).1.2.2.2.2.2⟩
    have gone : H5 s3.heap.objs.size = none := by
      have z : H5 ce.locals = none := I6.free
      rw [cL] at z
      exact z
    obtain ⟨m, hn, _⟩ := I6.loc
    have hn : s6.heap.Ns ce.locals m := hn
    rw [cL] at hn
    refine ⟨m, hn, fun h'' sb => ?_⟩
    obtain ⟨f0, f1, f2', f3, f4, f5⟩ := I3.fpOk (Nat.le_refl _) gone
    exact ⟨.ref D, H5, I7.turned (t' := s6.toks) (fun b o hb e => (sb.2 b hb).trans e) f0 f1 f3 f4 f5, rfl, fin⟩
  · refine thnF (T.item (X.blk s3 H3 scope ce fp) rfl rfl rfl hc i [] s5 _ H5 (fun _ _ => False) I5 (stat I5 n5) st5 go) fun r s6 ⟨u, hr, h6⟩ => ?_
    subst hr
    refine thnF h6 fun _ s7 ⟨x, H7, I7, r7, y7, st7, n7⟩ => ?_
    have I7' := I7.pinned (stat I7 n7) (T.obj _ _ st7)
    refine thnF (pg.run _ s7 _ H7 x u _ I7' r7 (step x H7 y7)) fun _ s8 ⟨σ8, H8, I8, hw8, q8⟩ => ?_
    refine thnF (pt.run _ s8 σ8 H8 _ I8 q8) fun b s9 ⟨H9, I9, q9⟩ => ?_
    have next : ∀ {s' : Shared} {H' : Hp}, Inv (X.blk s3 H3 scope ce fp) ([] ++ pinsAt fp s7.heap) σ8 H' s' → Nx H' → ∃ m, m < n ∧ ∃ i H', Inv (X.blk s3 H3 scope ce fp) [] (wipe σ (own.map (·.2))) H' s' ∧ tn i s'.heap ∧ (∀ b ∈ fp, H' b = none) ∧ W i m H' := fun {s' H'} I' nx => by
      obtain ⟨m', hm, w'⟩ := hNx H' nx
      have pinned : ∀ b ∈ fp, ∀ o, s7.heap.get? b = some o → s'.heap.get? b = some o ∧ H' b = none := fun b hb o e => by
        have z := I'.pin (b, o) (List.mem_append_right _ (List.mem_append_right _ (mem_pinsAt hb e)))
        exact ⟨z.1, z.2.1⟩
      have len : (wipe σ (own.map (·.2))).length = σ8.length := by rw [← hw8, wipe_length]
      refine ⟨m', hm, i + 1, H', (I'.unpinned (pins := [])).weak len (fun j v e => ?_), T.keep _ _ _ st7 fun b hb o e => (pinned b hb o e).1, fun b hb => ?_, w'⟩
      · rw [← hw8] at e
        exact (wipe_some e).1
      · obtain ⟨o, e, _⟩ := T.obj _ _ st7 b hb
        exact (pinned b hb o e).2
    cases b with
    | false =>
      simp only [Bool.false_eq_true, if_false] at q9 ⊢
      exact next I9 q9
    | true =>
      simp only [if_true] at q9 ⊢
      refine thnF (pe.run _ s9 σ8 H9 _ I9 q9) fun z s10 ⟨yv, H10, I10, r10, zt, l0, ey, hD10, hz10, nx⟩ => ?_
      subst ey
      obtain ⟨tk, rfl⟩ : ∃ tk, z = Value.str zt tk := r10
      exact so_add (X := X.blk s3 H3 scope ce fp) I10 hD10 hz10 fun s11 I11 => next I11 nx
end
end TX

namespace L10
open PySem PySem.Spec PyProof.Rows L2 GR AD RZ WX ZE TX
/-! ### free keys -/
abbrev W1 : List Str := ["free"]
def kidsF : PyData → List PyData
  | .tuple (.str w :: r) => (match look w with | some fs => pick W1 fs r | none => [])
  | _ => []
def isKey : PyData → Bool
  | .tuple (.str w :: _) => decide (w = "key")
  | _ => false
theorem pick_sub : ∀ (fs : List Str) (ds : List PyData), (pick W1 fs ds).Sublist (pick W2 fs ds)
  | [], _ => by simp only [pick]; exact List.Sublist.refl _
  | _ :: _, [] => by simp only [pick]; exact List.Sublist.refl _
  | f :: fs, d :: ds => by
    have ih := pick_sub fs ds
    rw [pick, pick]
    refine List.Sublist.append ?_ ih
    by_cases e : f = "extra"
    · rw [if_pos e, if_pos e]
      exact List.Sublist.refl _
    · rw [if_neg e, if_neg e]
      by_cases e2 : f ∈ W1
      · rw [if_pos e2, if_pos (by simp only [W1, W2, List.mem_cons, List.not_mem_nil, or_false] at e2 ⊢; exact .inl e2)]
        exact List.Sublist.refl _
      · rw [if_neg e2]
        exact List.nil_sublist _
theorem kidsF_sub (x : PyData) : (kidsF x).Sublist (kidsE x) := by
  unfold kidsF
  split
  · rename_i w r
    show (match look w with | some fs => pick W1 fs r | none => []).Sublist (match look w with | some fs => pick W2 fs r | none => [])
    cases look w with
    | none => exact List.Sublist.refl _
    | some fs => exact pick_sub fs r
  · exact List.nil_sublist _
theorem szs_sub {a b : List PyData} (h : a.Sublist b) : szs a ≤ szs b := by
  induction h with
  | slnil => exact Nat.le_refl _
  | cons x _ ih => rw [szs]; omega
  | cons_cons x _ ih => rw [szs, szs]; omega
theorem kidsF_sz (d : PyData) : szs (kidsF d) < sz d := Nat.lt_of_le_of_lt (szs_sub (kidsF_sub d)) (kidsE_sz d)
def keyE : Nat → PyData → Bool
  | 0, _ => false
  | n + 1, d => isKey d || (kidsF d).any (keyE n)
theorem any_cong {α : Type} {f g : α → Bool} : ∀ {l : List α}, (∀ x, x ∈ l → f x = g x) → l.any f = l.any g
  | [], _ => rfl
  | x :: l, h => by rw [List.any_cons, List.any_cons, h x List.mem_cons_self, any_cong fun y hy => h y (List.mem_cons_of_mem _ hy)]
theorem keyE_same : ∀ {n m : Nat} {d : PyData}, sz d ≤ n → sz d ≤ m → keyE n d = keyE m d
  | 0, _, d, h, _ => by have := sz_pos d; omega
  | _ + 1, 0, d, _, h => by have := sz_pos d; omega
  | n + 1, m + 1, d, h1, h2 => by
    have hk := kidsF_sz d
    rw [keyE, keyE]
    congr 1
    exact any_cong fun y hy => by
      have := sz_mem hy
      exact keyE_same (by omega) (by omega)
def keyX (d : PyData) : Bool := keyE (sz d) d
theorem keyX_step (d : PyData) : keyX d = (isKey d || (kidsF d).any keyX) := by
  have hp := sz_pos d
  have hk := kidsF_sz d
  unfold keyX
  obtain ⟨n, hn⟩ : ∃ n, sz d = n + 1 := ⟨sz d - 1, by omega⟩
  rw [hn, keyE]
  congr 1
  exact any_cong fun y hy => by
    have := sz_mem hy
    exact keyE_same (by omega) (Nat.le_refl _)
theorem dpAll_split {K : PySem.W.Frag} {H : Hp} : ∀ {a b : List V} {ds : List PyData}, DpAll K H (a ++ b) ds → ∃ d1 d2, ds = d1 ++ d2 ∧ DpAll K H a d1 ∧ DpAll K H b d2
  | [], b, ds, h => ⟨[], ds, rfl, .nil, h⟩
  | v :: a, b, _, .cons h t => by
    obtain ⟨d1, d2, rfl, h1, h2⟩ := dpAll_split t
    exact ⟨_ :: d1, d2, rfl, .cons h h1, h2⟩
theorem dpAll_last {K : PySem.W.Frag} {H : Hp} {us : List V} {xs : List PyData} (h : DpAll K H us xs) (hne : us ≠ []) : ∃ y d xs', xs = xs' ++ [d] ∧ us[us.length - 1]? = some y ∧ DpAll K H us.dropLast xs' ∧ Dp K H y d := by
  have e := List.dropLast_concat_getLast hne
  rw [← e] at h
  obtain ⟨d1, d2, rfl, g1, g2⟩ := dpAll_split h
  cases g2 with
  | cons g3 g4 =>
  cases g4
  refine ⟨us.getLast hne, _, d1, rfl, ?_, g1, g3⟩
  rw [← List.getLast?_eq_getElem?, List.getLast?_eq_getLast hne]
section
variable {P : Program} {w : World} {K : PySem.W.Frag} {mg : Str → Option Value} {base : Heap}
abbrev s_contained_free : Stmt := topS 22
theorem sc_contained_free : FnScope ["expression"] ["expression"] (defScope s_contained_free) := ⟨rfl, rfl, rfl, by decide +kernel, rfl, by decide +kernel, by decide +kernel⟩
def sp_cf (K : PySem.W.Frag) : Sp := fun vs H Q _ => ∃ (v : V) (x : PyData), vs = [v] ∧ Dp K H v x ∧ Xp x ∧ ∀ H' p us, Same H H' → H p = none → H' p = some (.lst us) → DpAll K H' us (kidsF x) → Q (.ref p) H'
theorem ok_contained_free {f fc : Addr} {fd fdc : FuncData} {k : Nat} (F : Fun K "contained_free" "contained_free" s_contained_free f fd) (Gc : FnOk P w K mg base CX0 k fc fdc ["expression", "wanted"] (sp_contained_of K)) (gc : mg "contained_of" = some (.ref fc)) (Kc : PySem.W.keepIn K (.ref fc) = true) (bc : Binds K fdc ["expression", "wanted"] []) :
    FnOk P w K mg base CX0 (k + 1) f fd ["expression"] (sp_cf K) := by
  have nd := sc_contained_free.nd
  refine F.ok sc_contained_free (fun vs H Q E h => ?_) (fun cdv A outer s H vs Q E hr h => ?_)
  · obtain ⟨v, x, rfl, _⟩ := h
    rfl
  obtain ⟨v, x, rfl, hd, hx, q⟩ := h
  refine ⟨_, (pss_one (ps_ret (pe_call Gc hr (by rfl) gc Kc bc .nil pass0 (pa_cons (pv 0) (pa_cons (pe_tup (pa_cons pe_str pa_nil)) pa_nil))))), ?_⟩
  have hfl := isX_flat hx.x
  have hz := hx.sz
  have hkz := kidsF_sz x
  have hkl := szs_len (kidsF x)
  have hkx : ∀ y, y ∈ kidsF x → isX y = true := fun y hy => isX_kids hx.x y ((kidsF_sub x).subset hy)
  obtain ⟨_, _, wd, fs, rest, rfl, lk, hfit, _⟩ := kids_sz x (isX_form hx.x)
  have hk : kidsF (.tuple (.str wd :: rest)) = pick W1 fs rest := by
    show (match look wd with | some fs => pick W1 fs rest | none => []) = _
    rw [lk]
  cases hd with
  | tup hS hA =>
  rename_i a vs
  refine ⟨.ref a, rfl, Nat.le_trans (show 1 ≤ 2 by decide) le2, fun t nt => ?_⟩
  have st := same_upd (o := .tup [.str "free"]) nt
  refine ⟨a, t, wd, fs, W1, rest, F0, rfl, dd_of _ _ hfl (dp_keep (KeepT.of st) _ _ hfl (.tup hS hA)), look_some lk, fits_of hfit, ?_, .inl (.inl upd_same), fun H' p us s1 np hp hu => ?_⟩
  · rw [← hk]
    omega
  · rw [← hk] at hu
    exact q H' p us (st.trans s1) (st.free np) hp (dp_ofs _ _ (isXs_flat hkx) hu)
abbrev s_has_free_key : Stmt := topS 29
theorem sc_has_free_key : FnScope ["expression", "todo", "part"] ["expression"] (defScope s_has_free_key) := ⟨rfl, rfl, rfl, by decide +kernel, rfl, by decide +kernel, by decide +kernel⟩
/-- what is still to do: the list at td -/
def FInv (K : PySem.W.Frag) (x : PyData) (v : V) (td : Addr) (H0 : Hp) (m : Nat) (σ : L2.St) (H : Hp) : Prop :=
  ∃ (z : Option V) (us : List V) (xs : List PyData), σ = [some v, some (.ref td), z] ∧ H td = some (.lst us) ∧ DpAll K H us xs ∧ (∀ y, y ∈ xs → Xp y) ∧ m = szs xs ∧ m ≤ 4000000 ∧ keyX x = xs.any keyX ∧ (∀ b o, b ≠ td → H0 b = some o → H b = some o)
theorem ok_has_free_key {f fc : Addr} {fd fdc : FuncData} {k : Nat} (F : Fun K "has_free_key" "has_free_key" s_has_free_key f fd) (Gc : FnOk P w K mg base CX0 k fc fdc ["expression"] (sp_cf K)) (gc : mg "contained_free" = some (.ref fc)) (Kc : PySem.W.keepIn K (.ref fc) = true) (bc : Binds K fdc ["expression"] []) :
    FnOk P w K mg base CX0 (k + 1) f fd ["expression"] (sp_tx K keyX) := by
  have nd := sc_has_free_key.nd
  refine F.ok sc_has_free_key (fun vs H Q E h => ?_) (fun cdv A outer s H vs Q E hr h => ?_)
  · obtain ⟨v, x, rfl, _⟩ := h
    rfl
  obtain ⟨v, x, rfl, hd, hx, q⟩ := h
  refine ⟨_, (pss_cons (ps_set (i := 1) nd rfl (.inl rfl) (pe_lst (pa_cons (pv 0) pa_nil)))
      (pss_cons (ps_while PassesOwn.never (pt_truth (pv 1) (fun _ => rfl))
      (pss_cons (ps_set (i := 2) nd rfl (.inl rfl) (pe_bm0 PySem.F.plainAttrs_list PySem.F.slot_list_pop PySem.F.type_list_pop mt_pop (pv 1)))
        (pss_cons (ps_if (pt_cmpR op_eq (pe_ix ix_tup (pv 2) pe_int (fun _ _ => rfl)) pe_str (nomark _))
        (pss_one (ps_ret pe_bl))
        pss_nil)
        (pss_one (ps_expr (pe_bm PySem.F.plainAttrs_list PySem.F.slot_list_extend PySem.F.type_list_extend mt_extend (pv 1) (pa_cons (pe_call Gc hr (by rfl) gc Kc bc .nil pass0 (pa_cons (pv 2) pa_nil)) pa_nil)))))))
      (pss_one (ps_ret pe_bl)))), ?_⟩
  refine ⟨v, rfl, small_le (show 1 ≤ 1000 by decide), fun td ntd => ?_⟩
  have sl0 := same_upd (o := .lst [v]) ntd
  have hsz : szs [x] ≤ 4000000 := by
    have := hx.sz
    rw [szs, szs]
    omega
  refine ⟨FInv K x v td H, ⟨szs [x], none, [v], [x], rfl, upd_same, .cons (dp_keep (KeepT.of sl0) _ _ (isX_flat hx.x) hd) .nil, ?_, rfl, hsz, ?_, fun b o _ e => sl0 _ _ e⟩, ?_⟩
  · intro y hy
    rw [List.mem_singleton.mp hy]
    exact hx
  · rw [List.any_cons, List.any_nil, Bool.or_false]
  · rintro m σ H' ⟨z, us, xs, rfl, hu, hA, hE, rfl, hm, hf, kk⟩
    have lu := dpAll_len hA
    have fin : ∀ H2, (∀ b o, b ≠ td → H' b = some o → H2 b = some o) → Same H H2 := fun H2 s2 b o e => s2 _ _ (ne_of_none e ntd) (kk _ _ (ne_of_none e ntd) e)
    refine ⟨.ref td, rfl, !us.isEmpty, .inl ⟨us, .inl (.inl hu), rfl⟩, ?_⟩
    cases hus : us with
    | nil =>
      subst hus
      cases hA
      rw [List.any_nil] at hf
      refine iteF ?_
      have := q H' (fin H' fun b o _ e => e)
      rw [hf] at this
      exact this
    | cons u0 ur =>
      have hne : us ≠ [] := by
        rw [hus]
        exact List.cons_ne_nil _ _
      rw [← hus]
      have full : (!us.isEmpty) = true := by
        rw [hus]
        rfl
      rw [full]
      obtain ⟨y, d, xs', rfl, hy, hA', hyd⟩ := dpAll_last hA hne
      have ed := hE d (List.mem_append_right _ (List.mem_singleton.mpr rfl))
      have hE' : ∀ y, y ∈ xs' → Xp y := fun y hy => hE y (List.mem_append_left _ hy)
      have fx' : flatDs xs' = true := isXs_flat fun y hy => (hE' y hy).x
      have hse : szs (xs' ++ [d]) = szs xs' + sz d := by rw [szs_append, szs, szs]; omega
      rw [hse] at hm
      have hkz := kidsF_sz d
      have hkl := szs_len (kidsF d)
      have hxl := szs_len xs'
      have hkp : ∀ y, y ∈ kidsF d → Xp y := fun y hy => ed.kids y ((kidsF_sub d).subset hy)
      rw [List.any_append, List.any_cons, List.any_nil, Bool.or_false, keyX_step d] at hf
      refine iteT ⟨fun σ' H'' => ∃ m', m' < szs (xs' ++ [d]) ∧ FInv K x v td H m' σ' H'', fun σ' H'' h => h, ?_⟩
      refine ⟨.ref td, rfl, .inl ⟨rfl, _, .inl (.inl hu)⟩, td, us, y, rfl, rfl, hu, hy, ?_⟩
      have k1 : KeepT H' (upd H' td (.lst us.dropLast)) := KeepT.lst hu
      have hu1 : upd H' td (.lst us.dropLast) td = some (.lst us.dropLast) := upd_same
      have keep1 : ∀ b o, b ≠ td → H' b = some o → upd H' td (.lst us.dropLast) b = some o := fun b o hb e => by
        rw [upd_ne hb]
        exact e
      have hA1 := dp_keepAll k1 _ _ fx' hA'
      have hyd1 := dp_keep k1 _ _ (isX_flat ed.x) hyd
      revert k1 hu1 keep1 hA1 hyd1
      generalize upd H' td (.lst us.dropLast) = H1
      intro k1 hu1 keep1 hA1 hyd1
      obtain ⟨wd, r, rfl⟩ := isX_head ed.x
      have hyd2 := hyd1
      cases hyd2 with
      | tup hS hB =>
      cases hB with
      | cons hw hB =>
      cases hw
      rename_i a vs
      have hik : isKey (.tuple (.str wd :: r)) = decide (wd = "key") := rfl
      rw [hik] at hf
      refine ⟨.ref a, rfl, a, _, 0, .str wd, rfl, rfl, hS, at0, rfl, _, rfl, ite2 (fun e1 => ?_) (fun e1 => ?_)⟩
      · have e1 : wd = "key" := by simpa using e1
        have := q H1 (fin H1 keep1)
        rw [hf, decide_eq_true e1, Bool.true_or, Bool.or_true] at this
        exact this
      · have e1 : wd ≠ "key" := fun z => e1 (by simpa using z)
        rw [decide_eq_false e1, Bool.false_or, ← List.any_append] at hf
        refine ⟨.ref td, rfl, .inl ⟨rfl, _, .inl (.inl hu1)⟩, .ref a, rfl, .ref a, _, rfl, hyd1, ed, fun H2 p us2 s2 np hp hu2 => ?_⟩
        have htd2 := s2 _ _ hu1
        have l1 := dpAll_len hA1
        have l2 := dpAll_len hu2
        have k2 : KeepT H2 (upd H2 td (.lst (us.dropLast ++ us2))) := KeepT.lst htd2
        refine ⟨td, p, us.dropLast, us2, rfl, rfl, htd2, hp, ?_, szs (xs' ++ kidsF (.tuple (.str wd :: r))), ?_, some (.ref a), us.dropLast ++ us2, xs' ++ kidsF (.tuple (.str wd :: r)), rfl, upd_same, ?_, ?_, rfl, ?_, hf, fun b o hb e => ?_⟩
        · rw [l1, l2, sizeLine_eq]
          omega
        · rw [szs_append, hse]
          omega
        · exact dpAll_append (dp_keepAll ((KeepT.of s2).trans k2) _ _ fx' hA1) (dp_keepAll k2 _ _ (isXs_flat fun y hy => (hkp y hy).x) hu2)
        · intro y hy
          rcases List.mem_append.mp hy with hy | hy
          · exact hE' y hy
          · exact hkp y hy
        · rw [szs_append]
          omega
        · rw [upd_ne hb]
          exact s2 _ _ (keep1 _ _ hb (kk _ _ hb e))
/-! ### variables -/
def varName : PyData → Option Str
  | .tuple (.str w :: .str z :: _) => if w = "var" then some z else none
  | _ => none
/-- what is true of each variable -/
def varQ (q : Str → Bool) (d : PyData) : Bool := match varName d with
  | some z => q z
  | none => true
theorem varName_no {w : Str} {r : List PyData} (h : w ≠ "var") : varName (.tuple (.str w :: r)) = none := by
  cases r with
  | nil => rfl
  | cons a r => cases a <;> first | rfl | exact if_neg h
theorem isX_var {r : List PyData} (h : isX (.tuple (.str "var" :: r)) = true) : ∃ z, r = [.str z] ∧ isN (.str z) = true := by
  have hf := isX_form h
  rw [form_some (show look "var" = some (["name"] : List Str) by decide)] at hf
  match r, hf with
  | [a], hf =>
    have hf' : (fitsD "name" a && true) = true := hf
    rw [Bool.and_true] at hf'
    have h1 : isN a = true := hf'
    cases a with
    | str z => exact ⟨z, rfl, h1⟩
    | _ => cases h1
  | [], hf => cases hf
  | _ :: _ :: _, hf => simp [fitsAll] at hf
theorem nodup_le : ∀ {l m : List Str}, l.Nodup → (∀ z, z ∈ l → z ∈ m) → l.length ≤ m.length
  | [], _, _, _ => Nat.zero_le _
  | a :: l, m, h, s => by
    obtain ⟨h1, h2⟩ := List.nodup_cons.mp h
    have ha := s a List.mem_cons_self
    have := nodup_le (m := m.erase a) h2 fun z hz => by
      have hne : z ≠ a := fun e => h1 (e ▸ hz)
      exact (List.mem_erase_of_ne hne).mpr (s z (List.mem_cons_of_mem _ hz))
    rw [List.length_erase_of_mem ha] at this
    have pos : 0 < m.length := List.length_pos_of_mem ha
    rw [List.length_cons]
    omega
theorem all_varQ (q : Str → Bool) : ∀ l : List PyData, l.all (varQ q) = (l.filterMap varName).all q
  | [] => rfl
  | x :: l => by
    rw [List.all_cons, List.filterMap_cons, all_varQ q l]
    unfold varQ
    cases varName x <;> rfl
abbrev s_variables_of : Stmt := topS 31
abbrev N_vars : List Str := ["expression", "part"]
theorem sc_variables_of : FnScope N_vars ["expression"] (defScope s_variables_of) := ⟨rfl, rfl, rfl, by decide +kernel, rfl, by decide +kernel, by decide +kernel⟩
def sp_vs (K : PySem.W.Frag) : Sp := fun vs H Q _ => ∃ (v : V) (x : PyData) (S : List Str), vs = [v] ∧ Dp K H v x ∧ Xp x ∧ S.length ≤ 60 ∧ allX (varQ fun z => decide (z ∈ S)) x = true ∧
  ∀ (H' : Hp) (p : Addr) (ys : List Str), Same H H' → H p = none → H' p = some (.tup (ys.map V.str)) → ys.length ≤ 60 → (∀ q, ys.all q = allX (varQ q) x) → Q (.ref p) H'
theorem ok_variables_of {f fc : Addr} {fd fdc : FuncData} {k : Nat} (F : Fun K "variables_of" "variables_of" s_variables_of f fd) (Gc : FnOk P w K mg base CX0 k fc fdc ["expression"] (sp_ap K)) (gc : mg "all_parts" = some (.ref fc)) (Kc : PySem.W.keepIn K (.ref fc) = true) (bc : Binds K fdc ["expression"] [])
    (msorted : mg "sorted" = none) (mtuple : mg "tuple" = none) : FnOk P w K mg base CX0 (k + 1) f fd ["expression"] (sp_vs K) := by
  have nd := sc_variables_of.nd
  refine F.ok sc_variables_of (fun vs H Q E h => ?_) (fun cdv A outer s H vs Q E hr h => ?_)
  · obtain ⟨v, x, S, rfl, _⟩ := h
    rfl
  obtain ⟨v, x, S, rfl, hd, hxp, hS60, hSx, q⟩ := h
  refine ⟨_, (pss_one (ps_ret (pe_callTy call_tuple_of (by rfl) mtuple boot_tuple (pa_cons (pe_callB (cr_sortedSS rfl) (by rfl) msorted boot_sorted (pa_cons (pe_scS (own := [("part", 1)]) rfl nd (pi_list (pe_call Gc hr (by rfl) gc Kc bc .nil pass0 (pa_cons (pv 0) pa_nil))) (blkOk_by (N := N_vars) (sc := defScope s_variables_of) (by decide +kernel))
      (fun _ _ _ _ _ => (pg_name (i := 1) nd rfl (Or.inl rfl)))
      (tt := tTest (tOp rEq (tOp (rIxT K) (tVar 1) (tC (.int 0))) (tC (.str "var")))) (fun _ _ _ _ _ => pts_one (pt_cmpR op_eq (pe_ix ix_tup (pv 1) pe_int (fun _ _ => rfl)) pe_str (nomark _)))
      (te := tOp (rIxT K) (tVar 1) (tC (.int 1))) (fun _ _ _ _ _ => (pe_ix ix_tup (pv 1) pe_int (fun _ _ => rfl)))) pa_nil)) pa_nil)))), ?_⟩
  refine ⟨v, rfl, v, x, rfl, hd, hxp.x, hxp.sz, fun H1 p us xs s1 np hp hu hE hq hl => ⟨p, rfl, ⟨us, .inl (.inl hp)⟩, fun D nD => ?_⟩⟩
  have lu := dpAll_len hu
  have hvz : ∀ z, z ∈ xs.filterMap varName → z ∈ S := fun z hz => by
    have h1 := (hq (varQ fun z => decide (z ∈ S))).trans hSx
    rw [all_varQ, List.all_eq_true] at h1
    exact of_decide_eq_true (h1 z hz)
  refine walk_body (xs := us) (fun i H' => ∃ l, H' D = some (SetSO w D l) ∧ l.Nodup ∧ (∀ z, z ∈ l ↔ z ∈ (xs.take i).filterMap varName) ∧ Same H1 H') ?_ ?_ ?_ ?_
  · refine ⟨[], upd_same, .nil, fun z => ?_, same_upd nD⟩
    rw [List.take_zero]
    exact Iff.rfl
  · rintro i H' _ ⟨l, hl, hn, hm, kk⟩
    exact .inl (.inl (kk _ _ hp))
  · rintro i y H' hy ⟨l, hl, hn, hm, kk⟩
    obtain ⟨d, hdi, hyd⟩ := dpAll_at hu hy
    have ex := hE d (List.mem_of_getElem? hdi)
    have hyd2 := dp_keep (KeepT.of kk) _ _ (isX_flat ex) hyd
    have vt : (xs.take (i + 1)).filterMap varName = (xs.take i).filterMap varName ++ (varName d).toList := by
      rw [take_at hdi, List.filterMap_append, List.filterMap_cons]
      cases varName d <;> rfl
    obtain ⟨wd, rest, rfl⟩ := isX_head ex
    cases hyd2 with
    | tup hS hA =>
    cases hA with
    | cons hw hA =>
    cases hw
    rename_i a vs
    refine ⟨rfl, .ref a, rfl, a, _, 0, .str wd, rfl, rfl, hS, at0, rfl, _, rfl, ite2 (fun e1 => ?_) (fun e1 => ?_)⟩
    · have e1 : wd = "var" := by simpa using e1
      subst e1
      obtain ⟨z, rfl, hzz⟩ := isX_var ex
      cases hA with
      | cons hw hA =>
      cases hw
      refine ⟨.ref a, rfl, a, _, 1, .str z, rfl, rfl, hS, at1, z, l, rfl, hl, ?_, put z l, upd_same, put_nodup hn, fun z' => ?_, fun b o e => ?_⟩
      · have := nodup_le (m := S) hn fun z' hz' => hvz z' (by
          have h1 := (hm z').mp hz'
          obtain ⟨y, hy, e⟩ := List.mem_filterMap.mp h1
          exact List.mem_filterMap.mpr ⟨y, List.mem_of_mem_take hy, e⟩)
        show _ < 4096
        omega
      · rw [mem_put, vt, List.mem_append, hm z']
        have : (varName (.tuple [.str "var", .str z])).toList = [z] := by
          unfold varName
          simp
        rw [this, List.mem_singleton]
        exact Or.comm
      · rw [upd_ne (ne_of_none e nD)]
        exact kk _ _ e
    · have e1 : wd ≠ "var" := fun z => e1 (by simpa using z)
      refine ⟨l, hl, hn, fun z => ?_, kk⟩
      rw [vt, varName_no e1, hm z]
      simp
  · rintro H' ⟨l, hl, hn, hm, kk⟩
    rw [lu, List.take_length] at hm
    have h6 := nodup_le (m := S) hn fun z' hz' => hvz z' ((hm z').mp hz')
    refine ⟨D, l, rfl, hl, by omega, fun ys r hperm hsrt nr => ?_⟩
    have sr := same_upd (o := .lst (ys.map V.str)) nr
    refine ⟨r, ys.map V.str, rfl, .inl ⟨.inl (.inl upd_same), fun t nt => ?_⟩⟩
    have st := same_upd (o := .tup (ys.map V.str)) nt
    refine q _ t ys (s1.trans (kk.trans (sr.trans st))) ((s1.trans (kk.trans sr)).free nt) upd_same (by rw [hperm.length_eq]; omega) fun p => ?_
    rw [← hq (varQ p), all_varQ, Bool.eq_iff_iff, List.all_eq_true, List.all_eq_true]
    exact ⟨fun g z hz => g z (hperm.mem_iff.mpr ((hm z).mpr hz)), fun g z hz => g z ((hm z).mp (hperm.mem_iff.mp hz))⟩
end
end L10

/-! Words that the hand layer lacks: a dict made and walked at once, a dict that takes another's entries. -/
namespace L10
open PySem PySem.Spec PyProof.Rows L2 GR AD RZ WX ZE TX
/-- what an expression gives is locked from here on -/
def tFrz (t : TE) : TE := fun σ H Q => t σ H fun v H1 => ∃ (d : Addr) (u : HO), v = .ref d ∧ H1 d = some u ∧ Mut (some u) ∧ ∀ od, Q (.ref d) (upd H1 d (.frz od u))
def mergeD (kvs more : List (Key × V)) : List (Key × V) := more.foldl (fun acc kv => putK acc kv.1 kv.2) kvs
theorem kv_merge : ∀ {more : List (Key × V)} {ms : List (Key × Value)} {kvs : List (Key × V)} {vs : List (Key × Value)}, KV kvs vs → KV more ms → KV (mergeD kvs more) (merged vs ms)
  | [], _, kvs, vs, h, g => by
    cases g
    exact h
  | kv :: more, _, kvs, vs, h, g => by
    cases g with
    | @cons p q ps qs g1 g2 =>
    have e : q.1 = kv.1 := g1.1.symm
    have := kv_merge (KV.put h kv.1 g1.2) g2
    rw [← e] at this
    unfold mergeD merged
    rw [List.foldl_cons, List.foldl_cons, ← e]
    exact this
theorem mergeK_le : ∀ {more kvs : List (Key × V)}, (mergeD kvs more).length ≤ kvs.length + more.length
  | [], kvs => Nat.le_refl _
  | kv :: more, kvs => by
    have := mergeK_le (more := more) (kvs := putK kvs kv.1 kv.2)
    have h2 := length_putK kvs kv.1 kv.2
    unfold mergeD at this ⊢
    rw [List.foldl_cons, List.length_cons]
    omega
def rDUpd : V → List V → Hp → VK → Prop := fun x vs H Q => ∃ (d e : Addr) (kvs more : List (Key × V)), x = .ref d ∧ vs = [.ref e] ∧ d ≠ e ∧ H d = some (.dK kvs) ∧ H e = some (.dK more) ∧ kvs.length + more.length ≤ sizeLine ∧ Q .non (upd H d (.dK (mergeD kvs more)))
section
variable {X : L2.Cx}
theorem pe_frz {e : Expr} {t : TE} (h : PE X e t) : PE X e (tFrz t) := by
  refine ⟨fun pins s σ H Q I hw => ?_⟩
  refine thn (h.run pins s σ _ _ I hw) fun v s1 ⟨x, H1, I1, r, d, u, ex, hd, mu, q⟩ => ?_
  subst ex
  obtain ⟨od, I2⟩ := I1.lock hd mu
  exact ⟨.ref d, _, I2, r, q od⟩
theorem mt_dupd : MtR X "dict.update" rDUpd := by
  intro pins s σ H x vs v us Q I rx rv h
  obtain ⟨d, e, kvs, more, rfl, rfl, hne, hd, he, hz, q⟩ := h
  cases rx
  obtain ⟨u, rfl, ru⟩ := rv.one
  cases ru
  obtain ⟨z1, hd1, vs1, rel1, dd1⟩ := dk_rd I.hok (.inl hd)
  obtain ⟨z2, hd2, vs2, rel2, dd2⟩ := dk_rd I.hok (.inl he)
  have l1 := rel1.length
  have l2 := rel2.length
  refine call_meetsIn PySem.F.slot_dict_update dd1.typeIs PySem.F.entry_dict_update (PySem.F.args_dict_update_2 _ _) (meets_dict_update (mixKind X.prog X.w) d e hne hd2)
    ⟨vs1, vs2, dd1, dd2, by omega, fun h' dd' _ hs => ⟨.non, _, ?_, rfl, q⟩⟩
  have hx : ∃ q, h'.get? d = some q := let ⟨q, _, _, hq, _⟩ := dd'; ⟨q, hq⟩
  have hle := mergeK_le (kvs := kvs) (more := more)
  exact d_write I (by rw [hd]; exact True.intro) hs hx (dk_new (by omega) hd1 (kv_merge rel1 rel2) dd')
end
end L10

namespace L10
open PySem PySem.Spec PyProof.Rows L2 GR AD RZ WX ZE TX
/-! ### statements, by their form -/
abbrev tableS : List (Str × List Str) := [("let", ["name", "keyless"]), ("need", ["keyless"]), ("put", ["name", "keyless", "name", "keyless"]), ("each", ["name", "row", "name", "row"]), ("tell", ["keyless"])]
def lookS (w : Str) : Option (List Str) := (tableS.find? fun p => decide (p.1 = w)).map (·.2)
def fitsS (f : Str) (d : PyData) : Bool := if f = "name" then isN d else isX d && (allX plainP d && (if f = "row" then allX simpleP d else !keyX d))
def fitsAllS : List Str → List PyData → Bool
  | [], [] => true
  | f :: fs, d :: ds => fitsS f d && fitsAllS fs ds
  | _, _ => false
def isSt : PyData → Bool
  | .tuple (.str w :: r) => (match lookS w with | some fs => fitsAllS fs r | none => false)
  | _ => false
/-- what may be asked about: a thing that is, or is not, an expression -/
structure Yp (d : PyData) : Prop where
  sh : shB d = true
  dep : d.depth < 40
  sz : sz d ≤ 4000000
theorem Yp.xp {d : PyData} (h : Yp d) (x : isX d = true) : Xp d := ⟨x, h.sh, h.dep, h.sz⟩
/-- the tableS of kinds, as it is written -/
structure TabS (K : PySem.W.Frag) (w : World) (fA : Addr) (es : Array DictEntry) (n : Nat) : Prop where
  at' : K.lookup fA = some ⟨.type "dict", none, .dict es n, #[]⟩
  keys : PySem.W.KeysLit w.params es.toList
  low : (fA == sysModules) = false
  yes : ∀ wd fs, (wd, fs) ∈ tableS → ∃ p, findBy Value.isStrOf es wd = some (.ref p) ∧ KTx K p fs
  no : ∀ wd, lookS wd = none → findBy Value.isStrOf es wd = none
theorem lookS_some {w : Str} {fs : List Str} (h : lookS w = some fs) : (w, fs) ∈ tableS := by
  unfold lookS at h
  obtain ⟨p, hp, rfl⟩ := Option.map_eq_some_iff.mp h
  have h1 := List.find?_some hp
  have h2 := List.mem_of_find?_eq_some hp
  rw [decide_eq_true_eq] at h1
  rw [← h1]
  exact h2
theorem formS_some {z : Str} {r : List PyData} {fs : List Str} (h : lookS z = some fs) : isSt (.tuple (.str z :: r)) = fitsAllS fs r := by
  show (match lookS z with | some fs => fitsAllS fs r | none => false) = _
  rw [h]
theorem formS_none {z : Str} {r : List PyData} (h : lookS z = none) : isSt (.tuple (.str z :: r)) = false := by
  show (match lookS z with | some fs => fitsAllS fs r | none => false) = _
  rw [h]
theorem fitsAllS_len : ∀ {fs : List Str} {ds : List PyData}, fs.length ≠ ds.length → fitsAllS fs ds = false
  | [], [], h => absurd rfl h
  | [], _ :: _, _ => rfl
  | _ :: _, [], _ => rfl
  | f :: fs, d :: ds, h => by
    show (fitsS f d && fitsAllS fs ds) = false
    rw [fitsAllS_len (fs := fs) (ds := ds) (fun e => h (by rw [List.length_cons, List.length_cons, e])), Bool.and_false]
/-- the answers so far -/
def fitsUpS (fs : List Str) (ds : List PyData) (i : Nat) : List Bool := ((fs.zip ds).take i).map fun p => fitsS p.1 p.2
theorem fitsAllS_zip : ∀ {fs : List Str} {ds : List PyData}, fs.length = ds.length → fitsAllS fs ds = ((fs.zip ds).map fun p => fitsS p.1 p.2).all id
  | [], [], _ => rfl
  | f :: fs, d :: ds, h => by
    show (fitsS f d && fitsAllS fs ds) = _
    rw [fitsAllS_zip (fs := fs) (ds := ds) (by simpa using h), List.zip_cons_cons, List.map_cons, List.all_cons]
    rfl
theorem tableS_len : ∀ p, p ∈ tableS → p.2.length ≤ 6 := by decide
section
variable {P : Program} {w : World} {K : PySem.W.Frag} {mg : Str → Option Value} {base : Heap}
abbrev s_fits2 : Stmt := topS 52
theorem sc_fits2 : FnScope ["kind", "part"] ["kind", "part"] (defScope s_fits2) := ⟨rfl, rfl, rfl, by decide +kernel, rfl, by decide +kernel, by decide +kernel⟩
def sp_fitsS (K : PySem.W.Frag) : Sp := fun vs H Q _ => ∃ (z : Str) (v : V) (d : PyData) (ok : Addr → Prop), vs = [.str z, v] ∧ Dd K ok H v d ∧ Yp d ∧ ∀ H', Same H H' → Q (.bl (fitsS z d)) H'
theorem ok_fits2 {f fn fx fp fi fk : Addr} {fd dn dx dp di dk : FuncData} {k : Nat} (F : Fun K "fits" "fits" s_fits2 f fd)
    (Gn : FnOk P w K mg base CX0 k fn dn ["thing"] (sp_isS K isN)) (gn : mg "is_name" = some (.ref fn)) (Kn : PySem.W.keepIn K (.ref fn) = true) (bn : Binds K dn ["thing"] [])
    (Gx : FnOk P w K mg base CX0 k fx dx ["thing"] (sp_isx K)) (gx : mg "is_expression" = some (.ref fx)) (Kx : PySem.W.keepIn K (.ref fx) = true) (bx : Binds K dx ["thing"] [])
    (Gp : FnOk P w K mg base CX0 k fp dp ["expression"] (sp_tx K (allX plainP))) (gp : mg "is_plain" = some (.ref fp)) (Kp : PySem.W.keepIn K (.ref fp) = true) (bp : Binds K dp ["expression"] [])
    (Gi : FnOk P w K mg base CX0 k fi di ["expression"] (sp_tx K (allX simpleP))) (gi : mg "is_simple" = some (.ref fi)) (Ki : PySem.W.keepIn K (.ref fi) = true) (bi : Binds K di ["expression"] [])
    (Gk : FnOk P w K mg base CX0 k fk dk ["expression"] (sp_tx K keyX)) (gk : mg "has_free_key" = some (.ref fk)) (Kk : PySem.W.keepIn K (.ref fk) = true) (bk : Binds K dk ["expression"] []) :
    FnOk P w K mg base CX0 (k + 1) f fd ["kind", "part"] (sp_fitsS K) := by
  have nd := sc_fits2.nd
  refine F.ok sc_fits2 (fun vs H Q E h => ?_) (fun cdv A outer s H vs Q E hr h => ?_)
  · obtain ⟨z, v, d, ok, rfl, _⟩ := h
    rfl
  obtain ⟨z, v, d, ok, rfl, hd, hy, q⟩ := h
  refine ⟨_, (pss_cons (ps_if (pt_cmpR op_eq (pv 0) pe_str (nomark _)) (pss_one (ps_ret (pe_call Gn hr (by rfl) gn Kn bn .nil pass0 (pa_cons (pv 1) pa_nil)))) pss_nil)
      (pss_cons (ps_if (PW.pt (pw_or (pt_not (pt_val (pe_call Gx hr (by rfl) gx Kx bx .nil pass0 (pa_cons (pv 1) pa_nil)))) (pw_or1 (pt_not (pt_val (pe_call Gp hr (by rfl) gp Kp bp .nil pass0 (pa_cons (pv 1) pa_nil))))))) (pss_one (ps_ret pe_bl)) pss_nil)
      (pss_cons (ps_if (pt_cmpR op_eq (pv 0) pe_str (nomark _)) (pss_one (ps_ret (pe_call Gi hr (by rfl) gi Ki bi .nil pass0 (pa_cons (pv 1) pa_nil)))) pss_nil)
      (pss_one (ps_ret (pe_not (pe_call Gk hr (by rfl) gk Kk bk .nil pass0 (pa_cons (pv 1) pa_nil)))))))), ?_⟩
  unfold fitsS at q
  refine ⟨.str z, rfl, rfl, _, rfl, ite2 (fun e1 => ?_) (fun e1 => ?_)⟩
  · have e1 : z = "name" := by simpa using e1
    simp only [if_pos e1] at q
    exact ⟨v, rfl, v, d, ok, rfl, hd, shB_sh hy.sh, q⟩
  have e1 : z ≠ "name" := fun x => e1 (by simpa using x)
  simp only [if_neg e1] at q
  refine ⟨v, rfl, v, d, ok, rfl, hd, hy.sh, hy.sz, fun H1 s1 => ⟨_, rfl, ?_⟩⟩
  cases hx : isX d with
  | false =>
    simp only [hx, Bool.false_and] at q
    exact iteT (iteT (q H1 s1))
  | true =>
  simp only [hx, Bool.true_and] at q
  have xp := hy.xp hx
  have hdp := dp_of d v (isX_flat hx) hd
  refine iteF ⟨v, rfl, v, d, rfl, dp_keep (KeepT.of s1) _ _ (isX_flat hx) hdp, xp, fun H2 s2 => ⟨_, rfl, ?_⟩⟩
  have s12 := s1.trans s2
  cases hp : allX plainP d with
  | false =>
    simp only [hp, Bool.false_and] at q
    exact iteT (q H2 s12)
  | true =>
  simp only [hp, Bool.true_and] at q
  refine iteF ⟨.str z, rfl, rfl, _, rfl, ite2 (fun e2 => ?_) (fun e2 => ?_)⟩
  · have e2 : z = "row" := by simpa using e2
    simp only [if_pos e2] at q
    exact ⟨v, rfl, v, d, rfl, dp_keep (KeepT.of s12) _ _ (isX_flat hx) hdp, xp, fun H3 s3 => q H3 (s12.trans s3)⟩
  · have e2 : z ≠ "row" := fun x => e2 (by simpa using x)
    simp only [if_neg e2] at q
    exact ⟨v, rfl, v, d, rfl, dp_keep (KeepT.of s12) _ _ (isX_flat hx) hdp, xp, fun H3 s3 => ⟨_, rfl, q H3 (s12.trans s3)⟩⟩
end
section
variable {P : Program} {w : World} {K : PySem.W.Frag} {mg : Str → Option Value} {base : Heap}
abbrev s_is_statement : Stmt := topS 51
abbrev N_ist : List Str := ["thing", "kinds", "kind", "part"]
theorem sc_is_statement : FnScope N_ist ["thing"] (defScope s_is_statement) := ⟨rfl, rfl, rfl, by decide +kernel, rfl, by decide +kernel, by decide +kernel⟩
def sp_ist (K : PySem.W.Frag) : Sp := fun vs H Q _ => ∃ (v : V) (d : PyData) (ok : Addr → Prop), vs = [v] ∧ Dd K ok H v d ∧ (∀ ds, d = .tuple ds → ∀ y, y ∈ ds → Yp y) ∧ ∀ H', Same H H' → Q (.bl (isSt d)) H'
theorem ok_is_statement {f fw ff fA : Addr} {fd dw df : FuncData} {k : Nat} {es : Array DictEntry} {n : Nat} (F : Fun K "is_statement" "is_statement" s_is_statement f fd) (Gw : FnOk P w K mg base CX0 k fw dw ["thing"] (sp_word K)) (gw : mg "word_of" = some (.ref fw)) (Kw : PySem.W.keepIn K (.ref fw) = true) (bw : Binds K dw ["thing"] [])
    (Gf : FnOk P w K mg base CX0 k ff df ["kind", "part"] (sp_fitsS K)) (gf : mg "fits_statements" = some (.ref ff)) (Kf : PySem.W.keepIn K (.ref ff) = true) (bf : Binds K df ["kind", "part"] [])
    (mFIELDS : mg "FIELDS_statements" = some (.ref fA)) (T : TabS K w fA es n) (mlen : mg "len" = none) (mzip : mg "zip" = none) (mall : mg "all" = none) : FnOk P w K mg base CX0 (k + 1) f fd ["thing"] (sp_ist K) := by
  have nd := sc_is_statement.nd
  refine F.ok sc_is_statement (fun vs H Q E h => ?_) (fun cdv A outer s H vs Q E hr h => ?_)
  · obtain ⟨v, d, ok, rfl, _⟩ := h
    rfl
  obtain ⟨v, d, ok, rfl, hd, hsh, q⟩ := h
  refine ⟨_, (pss_cons (ps_set (i := 1) nd rfl (.inl rfl) (FG.pe_kget (pe_glob rfl mFIELDS (v := .ref fA) rfl) (pe_call Gw hr (by rfl) gw Kw bw .nil pass0 (pa_cons (pv 0) pa_nil)) ⟨by rfl, by rfl, by rfl, by rfl⟩))
      (pss_cons (ps_if (PW.pt (pw_or (pt_cmpR op_isN (pv 1) pe_non (nomark _)) (pw_or1 (pt_cmpR op_ne (pe_callB call_len_seq (by rfl) mlen PySem.boot_len (pa_cons (pv 0) pa_nil)) (pe_op op_add pe_int (pe_callB call_len_seq (by rfl) mlen PySem.boot_len (pa_cons (pv 1) pa_nil))) (nomark _)))))
        (pss_one (ps_ret pe_bl))
        pss_nil)
      (pss_one (ps_ret (pe_callB (cr_all rfl) (by rfl) mall boot_all (pa_cons (pe_lc (own := [("kind", 2), ("part", 3)]) (g := gTup K 2 (gCons (gName 2) (gCons (gName 3) gNil))) (tt := tYes) (te := tCall (sp_fitsS K) [] E0 (tCons (tVar 2) (tCons (tVar 3) tNil))) rfl nd
          (pi_zipA (by rfl) mzip (pa_cons (pv 1) (pa_cons (pe_slice L2.sl_tup (pv 0) (po_some pe_int) po_none) pa_nil))) (blkOk_by (N := N_ist) (sc := defScope s_is_statement) (by decide +kernel))
          (fun _ _ _ _ _ => (pg_tup rfl (pgs_cons (pg_name (i := 2) (x := "kind") nd rfl (Or.inl rfl)) (pgs_cons (pg_name (i := 3) (x := "part") nd rfl (Or.inl rfl)) pgs_nil))))
          (fun _ _ _ _ _ => pts_nil) (fun _ _ _ _ _ => (pe_call Gf hr (by rfl) gf Kf bf .nil pass0 (pa_cons (pv 2) (pa_cons (pv 3) pa_nil))))) pa_nil)))))), ?_⟩
  refine ⟨fA, es, n, rfl, T.at', T.keys, T.low, v, rfl, v, d, ok, rfl, hd, ?_⟩
  cases hd with
  | tup hs ha =>
    rename_i a xs ds
    cases ha with
    | nil => exact ⟨.non, .inl ⟨rfl, rfl⟩, .non, rfl, rfl, _, rfl, iteT (iteT (q H fun _ _ e => e))⟩
    | cons h1 r1 =>
      rename_i v1 vs1 d1 ds1
      cases h1 with
      | str z =>
        cases hlk : lookS z with
        | none =>
          refine ⟨.non, .inr ⟨z, rfl, .inr ⟨T.no z hlk, rfl⟩⟩, .non, rfl, rfl, _, rfl, iteT (iteT ?_)⟩
          have := q H fun _ _ e => e
          rw [formS_none hlk] at this
          exact this
        | some fs =>
          have hq : ∀ H', Same H H' → Q (.bl (fitsAllS fs ds1)) H' := fun H' s => by
            have := q H' s
            rw [formS_some hlk] at this
            exact this
          obtain ⟨p, hp1, hp2⟩ := T.yes z fs (lookS_some hlk)
          have hlen := r1.len
          have hf6 : fs.length ≤ 6 := tableS_len _ (lookS_some hlk)
          refine ⟨.ref p, .inr ⟨z, rfl, .inl ⟨.ref p, hp1, rfl⟩⟩, .ref p, rfl, rfl, _, rfl, ?_⟩
          rw [decide_eq_false (fun z => nomatch z)]
          refine iteF ⟨.ref a, rfl, a, _, rfl, .inr hs, .ref p, rfl, p, _, rfl, .inr (hp2 H), 1, _, rfl, rfl, rfl, _, rfl, ?_⟩
          by_cases c : fs.length = ds1.length
          case neg =>
            rw [fitsAllS_len c] at hq
            rw [show (!decide (V.int (((V.str z :: vs1).length : Nat) : Int) = V.int (1 + (((fs.map V.str).length : Nat) : Int)))) = true from by
              rw [decide_eq_false (fun e => c (by injection e with e; rw [List.length_cons, List.length_map] at e; omega))]; rfl]
            exact iteT (hq H fun _ _ e => e)
          rw [show (!decide (V.int (((V.str z :: vs1).length : Nat) : Int) = V.int (1 + (((fs.map V.str).length : Nat) : Int)))) = false from by
            rw [decide_eq_true (by congr 1; rw [List.length_cons, List.length_map]; omega)]; rfl]
          refine iteF ⟨.ref p, rfl, .ref a, rfl, 1, rfl, a, _, rfl, hs, ?_, fun c1 nc => ?_⟩
          · rw [List.length_cons]
            rintro ⟨e, _⟩
            have : HT.sIx (vs1.length + 1) 0 (some 1) = min 1 (vs1.length + 1) := HT.sIx_nat _ _ 1
            rw [this] at e
            omega
          have hcut : cutV (.str z :: vs1) (some 1) none = vs1 := by
            unfold cutV
            rw [HT.sIx_none, show HT.sIx (V.str z :: vs1).length 0 (some 1) = min 1 (V.str z :: vs1).length from HT.sIx_nat _ _ 1, List.length_cons, show min 1 (vs1.length + 1) = 1 by omega, List.drop_succ_cons, List.drop_zero, show vs1.length + 1 - 1 = vs1.length by omega, List.take_length]
          rw [hcut]
          have sc := same_upd (o := .tup vs1) nc
          have hc1 : upd H c1 (.tup vs1) c1 = some (.tup vs1) := upd_same
          revert sc hc1
          generalize upd H c1 (.tup vs1) = H1
          intro sc hc1
          refine ⟨p, c1, fs.map V.str, vs1, rfl, .inr ⟨hp2 H1, .inl (.inl hc1), fun D nD => ?_⟩⟩
          refine lc_it (walk_zipT (xs := fs.map V.str) (ys := vs1) (n := fs.length) (by rw [List.length_map]) (by omega)) (fun i H' => H' D = some (.lst ((fitsUpS fs ds1 i).map V.bl)) ∧ ∀ b o, b ≠ D → H1 b = some o → H' b = some o) ?_ ?_ ?_ ?_
          · exact ⟨upd_same, fun b o nb e => by rw [upd_ne nb]; exact e⟩
          · rintro i H' _ ⟨_, kp⟩
            exact ⟨hp2 H', .inl (.inl (kp _ _ (ne_of_none hc1 nD) hc1))⟩
          · rintro i x H2 H' hi ⟨hD, kp⟩ ⟨T1, x1, y1, rfl, hT, rfl, hx1, hy1⟩
            replace hx1 : (fs.map V.str)[i]? = some x1 := hx1
            replace hy1 : vs1[i]? = some y1 := hy1
            rw [List.getElem?_map] at hx1
            obtain ⟨fi, hfi, rfl⟩ := Option.map_eq_some_iff.mp hx1
            have sT := same_upd (o := .tup [.str fi, y1]) hT
            have s12 : Same H1 H2 := fun b o e => kp b o (ne_of_none e nD) e
            have s02 := sc.trans (s12.trans sT)
            obtain ⟨di, hdi, hyd⟩ := dd_at (r1.keep (KeepO.of s02)) hy1
            have hDT := sT _ _ hD
            refine ⟨_, _, rfl, .inl (.inl upd_same), rfl, _, _, rfl, _, _, rfl, rfl, rfl, yes_then ⟨.str fi, rfl, y1, rfl, fi, y1, di, ok, rfl, hyd, hsh _ rfl di (List.mem_cons_of_mem _ (List.mem_of_getElem? hdi)), fun H3 s3 => ⟨_, s3 _ _ hDT, small1000 ?_, ?_, fun b o nb e => ?_⟩⟩⟩
            · unfold fitsUpS
              rw [List.length_map, List.length_map, List.length_take]
              omega
            · have hz : (fs.zip ds1)[i]? = some (fi, di) := List.getElem?_zip_eq_some.mpr ⟨hfi, hdi⟩
              unfold fitsUpS
              rw [take_at hz, List.map_append, List.map_append]
              exact upd_same
            · rw [upd_ne nb]
              exact s3 _ _ (sT _ _ (kp b o nb e))
          · rintro H2 ⟨hD, kp⟩
            have s12 : Same H1 H2 := fun b o e => kp b o (ne_of_none e nD) e
            have hzl : fs.length = (fs.zip ds1).length := by
              rw [List.length_zip]
              omega
            unfold fitsUpS at hD
            rw [hzl, List.take_length] at hD
            refine ⟨D, (fs.zip ds1).map fun p => fitsS p.1 p.2, rfl, .inl (.inl hD), ?_⟩
            rw [← fitsAllS_zip c]
            exact hq H2 (sc.trans s12)
      | _ => exact ⟨.non, .inl ⟨rfl, rfl⟩, .non, rfl, rfl, _, rfl, iteT (iteT (q H fun _ _ e => e))⟩
  | _ => exact ⟨.non, .inl ⟨rfl, rfl⟩, .non, rfl, rfl, _, rfl, iteT (iteT (q H fun _ _ e => e))⟩
end
end L10

namespace L10
open PySem PySem.Spec PyProof.Rows L2 GR AD RZ WX ZE TX
theorem isSt_inv {d : PyData} (h : isSt d = true) : ∃ w fs r, d = .tuple (.str w :: r) ∧ lookS w = some fs ∧ fitsAllS fs r = true := by
  unfold isSt at h
  split at h
  · rename_i w r
    split at h
    · rename_i fs hl
      exact ⟨w, fs, r, rfl, hl, h⟩
    · cases h
  · cases h
/-- what a statement names with let -/
def letsL : PyData → List Str
  | .tuple (.str w :: .str z :: _) => if w = "let" then [z] else []
  | _ => []
/-- its expressions -/
def exprs : List Str → List PyData → List PyData
  | f :: fs, d :: ds => (if f = "name" then [] else [d]) ++ exprs fs ds
  | _, _ => []
def kidsS : PyData → List PyData
  | .tuple (.str w :: r) => (match lookS w with | some fs => exprs fs r | none => [])
  | _ => []
theorem kidsS_some {w : Str} {fs : List Str} {r : List PyData} (h : lookS w = some fs) : kidsS (.tuple (.str w :: r)) = exprs fs r := by
  show (match lookS w with | some fs => exprs fs r | none => []) = _
  rw [h]
theorem fitsAllS_eq {fs : List Str} {ds : List PyData} (h : fitsAllS fs ds = true) : fs.length = ds.length := by
  by_cases c : fs.length = ds.length
  · exact c
  · rw [fitsAllS_len c] at h
    cases h
theorem fitsAllS_at : ∀ {fs : List Str} {ds : List PyData}, fitsAllS fs ds = true → ∀ {i : Nat} {f : Str} {d : PyData}, fs[i]? = some f → ds[i]? = some d → fitsS f d = true
  | [], _, _, i, f, d, h1, _ => by simp at h1
  | _ :: _, [], h, _, _, _, _, _ => by cases h
  | x :: fs, y :: ds, h, i, f, d, h1, h2 => by
    have h' : (fitsS x y && fitsAllS fs ds) = true := h
    rw [Bool.and_eq_true] at h'
    cases i with
    | zero =>
      cases h1
      cases h2
      exact h'.1
    | succ i => exact fitsAllS_at h'.2 (by simpa using h1) (by simpa using h2)
theorem exprs_isX : ∀ {fs : List Str} {ds : List PyData}, fitsAllS fs ds = true → ∀ x, x ∈ exprs fs ds → isX x = true ∧ allX plainP x = true ∧ x ∈ ds
  | [], _, _, x, h => by simp only [exprs, List.not_mem_nil] at h
  | _ :: _, [], h, _, _ => by cases h
  | f :: fs, y :: ds, h, x, hx => by
    have h' : (fitsS f y && fitsAllS fs ds) = true := h
    rw [Bool.and_eq_true] at h'
    rw [exprs] at hx
    rcases List.mem_append.mp hx with hx | hx
    · by_cases e : f = "name"
      · rw [if_pos e] at hx
        exact (nomatch hx)
      · rw [if_neg e, List.mem_singleton] at hx
        subst hx
        have h1 := h'.1
        unfold fitsS at h1
        rw [if_neg e, Bool.and_eq_true, Bool.and_eq_true] at h1
        exact ⟨h1.1, h1.2.1, List.mem_cons_self⟩
    · obtain ⟨a, b, c⟩ := exprs_isX h'.2 x hx
      exact ⟨a, b, List.mem_cons_of_mem _ c⟩
theorem exprs_take : ∀ {fs : List Str} {ds : List PyData} {i : Nat} {f : Str} {d : PyData}, fs[i]? = some f → ds[i]? = some d → exprs (fs.take (i + 1)) (ds.take (i + 1)) = exprs (fs.take i) (ds.take i) ++ (if f = "name" then [] else [d])
  | [], _, i, f, d, h, _ => by simp at h
  | _ :: _, [], i, f, d, _, h => by simp at h
  | x :: fs, y :: ds, 0, f, d, h1, h2 => by
    cases h1
    cases h2
    simp [exprs]
  | x :: fs, y :: ds, i + 1, f, d, h1, h2 => by
    have ih := exprs_take (fs := fs) (ds := ds) (i := i) (by simpa using h1) (by simpa using h2)
    rw [List.take_succ_cons, List.take_succ_cons, List.take_succ_cons, List.take_succ_cons, exprs, exprs, ih, List.append_assoc]
theorem exprs_len : ∀ {fs : List Str} {ds : List PyData}, (exprs fs ds).length ≤ fs.length
  | [], ds => by simp [exprs]
  | f :: fs, [] => by simp [exprs]
  | f :: fs, d :: ds => by
    have := exprs_len (fs := fs) (ds := ds)
    rw [exprs, List.length_append, List.length_cons]
    split <;> simp <;> omega
/-- a statement that may be asked about -/
structure Sp' (d : PyData) : Prop where
  st : isSt d = true
  ys : ∀ ds, d = .tuple ds → ∀ y, y ∈ ds → Yp y
theorem Sp'.kids {d : PyData} (h : Sp' d) : ∀ y, y ∈ kidsS d → Xp y := fun y hy => by
  obtain ⟨w, fs, r, rfl, lk, hf⟩ := isSt_inv h.st
  rw [kidsS_some lk] at hy
  obtain ⟨a, _, c⟩ := exprs_isX hf y hy
  exact (h.ys _ rfl y (List.mem_cons_of_mem _ c)).xp a
theorem let_inv {w : Str} {fs : List Str} {r : List PyData} (lk : lookS w = some fs) (hf : fitsAllS fs r = true) (e : w = "let") : ∃ z x, r = [.str z, x] := by
  subst e
  have : fs = (["name", "keyless"] : List Str) := Option.some.inj (lk.symm.trans (show lookS "let" = some (["name", "keyless"] : List Str) by decide))
  subst this
  match r, hf with
  | [a, b], hf =>
    have h' : (fitsS "name" a && (fitsS "keyless" b && true)) = true := hf
    rw [Bool.and_eq_true] at h'
    have h1 : isN a = true := by
      have := h'.1
      unfold fitsS at this
      rw [if_pos rfl] at this
      exact this
    cases a with
    | str z => exact ⟨z, b, rfl⟩
    | _ => cases h1
  | [], hf => cases hf
  | [_], hf => simp [fitsAllS] at hf
  | _ :: _ :: _ :: _, hf => simp [fitsAllS] at hf
theorem letsL_no {w : Str} {r : List PyData} (h : w ≠ "let") : letsL (.tuple (.str w :: r)) = [] := by
  cases r with
  | nil => rfl
  | cons a r => cases a <;> first | rfl | exact if_neg h
theorem same_upd2 {H : Hp} {p : Addr} {o1 o2 : HO} (n : H p = none) : Same H (upd (upd H p o1) p o2) := fun b o e => by
  rw [upd_ne (ne_of_none e n), upd_ne (ne_of_none e n)]
  exact e
section
variable {P : Program} {w : World} {K : PySem.W.Frag} {mg : Str → Option Value} {base : Heap}
abbrev s_names_let : Stmt := topS 55
theorem sc_names_let : FnScope ["statement"] ["statement"] (defScope s_names_let) := ⟨rfl, rfl, rfl, by decide +kernel, rfl, by decide +kernel, by decide +kernel⟩
abbrev letK (d : PyData) : List (Key × V) := (letsL d).map fun z => ((.inr z : Key), V.bl true)
/-- d[0] is a text of the tuple -/
def sp_nl (K : PySem.W.Frag) : Sp := fun vs H Q _ => ∃ (v : V) (d : PyData) (ok : Addr → Prop), vs = [v] ∧ Dd K ok H v d ∧ isSt d = true ∧ ∀ H' p, Same H H' → H p = none → H' p = some (.dK (letK d)) → Q (.ref p) H'
theorem ok_names_let {f : Addr} {fd : FuncData} {k : Nat} (F : Fun K "names_let" "names_let" s_names_let f fd) : FnOk P w K mg base CX0 (k + 1) f fd ["statement"] (sp_nl K) := by
  have nd := sc_names_let.nd
  refine F.ok sc_names_let (fun vs H Q E h => ?_) (fun cdv A outer s H vs Q E hr h => ?_)
  · obtain ⟨v, d, ok, rfl, _⟩ := h
    rfl
  obtain ⟨v, d, ok, rfl, hd, hs, q⟩ := h
  refine ⟨_, (pss_cons (ps_if (pt_cmpR op_eq (pe_ix ix_tup (pv 0) pe_int (fun _ _ => rfl)) pe_str (nomark _))
      (pss_one (ps_ret (pe_disp (pps_cons (pe_ix ix_tup (pv 0) pe_int (fun _ _ => rfl)) pe_bl pps_nil) (by decide) rfl (by simp) (by decide))))
      pss_nil)
      (pss_one (ps_ret pe_dnewK))), ?_⟩
  obtain ⟨wd, fs, r, rfl, lk, hf⟩ := isSt_inv hs
  cases hd with
  | tup hS hA =>
  cases hA with
  | cons hw hA =>
  cases hw
  rename_i a vs
  refine ⟨.ref a, rfl, a, _, 0, .str wd, rfl, rfl, hS, at0, rfl, _, rfl, ite2 (fun e1 => ?_) (fun e1 => ?_)⟩
  · have e1 : wd = "let" := by simpa using e1
    obtain ⟨z, x, rfl⟩ := let_inv lk hf e1
    cases hA with
    | cons hw hA =>
    cases hw
    have hl : letK (.tuple (.str wd :: [.str z, x])) = [(.inr z, .bl true)] := by
      show ((if wd = "let" then [z] else []).map _) = _
      rw [if_pos e1]
      rfl
    rw [hl] at q
    exact fun p np => ⟨.ref a, rfl, a, _, 1, .str z, rfl, rfl, (KeepT.of (same_upd np)).seqt hS, at1, upd_same, [(.inr z, .bl true)], rfl, Nat.le_of_ble_eq_true rfl, q _ p (same_upd2 np) np upd_same⟩
  · have e1 : wd ≠ "let" := fun z => e1 (by simpa using z)
    have hl : letK (.tuple (.str wd :: r)) = [] := by
      show (letsL (.tuple (.str wd :: r))).map _ = _
      rw [letsL_no e1]
      rfl
    rw [hl] at q
    exact fun p np => q _ p (same_upd np) np upd_same
end
end L10

namespace L10
open PySem PySem.Spec PyProof.Rows L2 GR AD RZ WX ZE TX
/-- any walk over a tuple: what a turn does, told by body with what is to hold behind it -/
theorem walk_bodyT {K : PySem.W.Frag} {a : Addr} {xs : List V} {body : V → Hp → (Hp → Prop) → Prop} {H0 : Hp} {Qd : Hp → Prop} (Pv : Nat → Hp → Prop) (h0 : Pv 0 H0) (hl : ∀ i H, i ≤ xs.length → Pv i H → SqT K H a xs)
    (hs : ∀ i x H, xs[i]? = some x → Pv i H → body x H (Pv (i + 1))) (hd : ∀ H, Pv xs.length H → Qd H) :
    ∃ W : Nat → Nat → Hp → Prop, (∃ m, W 0 m H0) ∧ ∀ i m H, W i m H →
      ((Itt K a).stop i H ∧ Qd H) ∨ ((Itt K a).go i H ∧ ∃ Nx : Hp → Prop, (∀ H', Nx H' → ∃ m', m' < m ∧ W (i + 1) m' H') ∧ ∀ x H', (Itt K a).yld i H x H' → body x H' Nx) := by
  have w := walk_tup (K := K) (a := a) (xs := xs)
  refine ⟨fun i m H => m = xs.length - i ∧ i ≤ xs.length ∧ Pv i H, ⟨xs.length, rfl, Nat.zero_le _, h0⟩, ?_⟩
  rintro i m H ⟨rfl, hi, p⟩
  have q := hl i H hi p
  by_cases hlt : i < xs.length
  · refine .inr ⟨w.goes i H hlt q, Pv (i + 1), fun H' p' => ⟨xs.length - (i + 1), by omega, rfl, hlt, p'⟩, fun x H' y => ?_⟩
    obtain ⟨rfl, hx⟩ := w.yields i H x H' hlt q y
    exact hs i x _ hx p
  · obtain rfl : i = xs.length := by omega
    exact .inl ⟨w.stops H q, hd H p⟩
theorem fitsAllS_take : ∀ {fs : List Str} {ds : List PyData}, fitsAllS fs ds = true → ∀ i, fitsAllS (fs.take i) (ds.take i) = true
  | _, _, _, 0 => by rw [List.take_zero, List.take_zero]; rfl
  | [], [], _, i + 1 => rfl
  | [], _ :: _, h, _ + 1 => by cases h
  | _ :: _, [], h, _ + 1 => by cases h
  | f :: fs, d :: ds, h, i + 1 => by
    have h' : (fitsS f d && fitsAllS fs ds) = true := h
    rw [Bool.and_eq_true] at h'
    show (fitsS f d && fitsAllS (fs.take i) (ds.take i)) = true
    rw [h'.1, fitsAllS_take h'.2 i]
    rfl
def FldsS (K : PySem.W.Frag) (w : World) (fA : Addr) : Prop := ∀ wd fs, (wd, fs) ∈ tableS → ∃ p, KDct K w fA wd (.ref p) ∧ ∀ H, SqT K H p (fs.map V.str)
section
variable {P : Program} {w : World} {K : PySem.W.Frag} {mg : Str → Option Value} {base : Heap}
abbrev s_expressions_in : Stmt := topS 57
abbrev N_ein : List Str := ["statement", "kinds", "kind", "part"]
theorem sc_expressions_in : FnScope N_ein ["statement"] (defScope s_expressions_in) := ⟨rfl, rfl, rfl, by decide +kernel, rfl, by decide +kernel, by decide +kernel⟩
def sp_ein (K : PySem.W.Frag) : Sp := fun vs H Q _ => ∃ (v : V) (d : PyData) (ok : Addr → Prop), vs = [v] ∧ Dd K ok H v d ∧ Sp' d ∧ ∀ H' p us, Same H H' → H p = none → H' p = some (.lst us) → DpAll K H' us (kidsS d) → (kidsS d).length ≤ 6 → Q (.ref p) H'
theorem ok_expressions_in {f fA : Addr} {fd : FuncData} {k : Nat} (F : Fun K "expressions_in" "expressions_in" s_expressions_in f fd) (mFIELDS : mg "FIELDS_statements" = some (.ref fA)) (T : FldsS K w fA) (mzip : mg "zip" = none) : FnOk P w K mg base CX0 (k + 1) f fd ["statement"] (sp_ein K) := by
  have nd := sc_expressions_in.nd
  refine F.ok sc_expressions_in (fun vs H Q E h => ?_) (fun cdv A outer s H vs Q E hr h => ?_)
  · obtain ⟨v, d, ok, rfl, _⟩ := h
    rfl
  obtain ⟨v, d, ok, rfl, hd, hs, q⟩ := h
  refine ⟨_, (pss_cons (ps_set (i := 1) nd rfl (.inl rfl) (pe_ix ix_kdict (pe_glob rfl mFIELDS (v := .ref fA) rfl) (pe_ix ix_tup (pv 0) pe_int (fun _ _ => rfl)) (fun _ _ => rfl)))
      (pss_one (ps_ret (pe_lc (own := [("kind", 2), ("part", 3)]) (g := gTup K 2 (gCons (gName 2) (gCons (gName 3) gNil))) (tt := tTest (tOp rNe (tVar 2) (tC (.str "name")))) (te := tVar 3) rfl nd
        (pi_zipA (by rfl) mzip (pa_cons (pv 1) (pa_cons (pe_slice L2.sl_tup (pv 0) (po_some pe_int) po_none) pa_nil))) (blkOk_by (N := N_ein) (sc := defScope s_expressions_in) (by decide +kernel))
        (fun _ _ _ _ _ => (pg_tup rfl (pgs_cons (pg_name (i := 2) (x := "kind") nd rfl (Or.inl rfl)) (pgs_cons (pg_name (i := 3) (x := "part") nd rfl (Or.inl rfl)) pgs_nil))))
        (fun _ _ _ _ _ => pts_one (pt_cmpR op_ne (pv 2) pe_str (nomark _))) (fun _ _ _ _ _ => (pv 3)))))), ?_⟩
  obtain ⟨wd, fs, r, rfl, lk, hf⟩ := isSt_inv hs.st
  rw [kidsS_some lk] at q
  have hlen := fitsAllS_eq hf
  have hf6 : fs.length ≤ 6 := tableS_len _ (lookS_some lk)
  have hx6 := exprs_len (fs := fs) (ds := r)
  have hex := exprs_isX hf
  cases hd with
  | tup hS hA =>
  cases hA with
  | cons hw hA =>
  cases hw
  rename_i a vs
  obtain ⟨fp, hK, hF⟩ := T wd fs (lookS_some lk)
  have hl0 := hA.len
  refine ⟨.ref a, rfl, a, _, 0, .str wd, rfl, rfl, hS, at0, fA, wd, .ref fp, rfl, rfl, hK, ?_⟩
  refine ⟨.ref fp, rfl, .ref a, rfl, 1, rfl, a, _, rfl, hS, ?_, fun c nc => ?_⟩
  · rw [List.length_cons]
    rintro ⟨e, _⟩
    have : HT.sIx (vs.length + 1) 0 (some 1) = min 1 (vs.length + 1) := HT.sIx_nat _ _ 1
    rw [this] at e
    omega
  have hcut : cutV (.str wd :: vs) (some 1) none = vs := by
    unfold cutV
    rw [HT.sIx_none, show HT.sIx (V.str wd :: vs).length 0 (some 1) = min 1 (V.str wd :: vs).length from HT.sIx_nat _ _ 1, List.length_cons, show min 1 (vs.length + 1) = 1 by omega, List.drop_succ_cons, List.drop_zero, show vs.length + 1 - 1 = vs.length by omega, List.take_length]
  rw [hcut]
  have sc := same_upd (o := .tup vs) nc
  have hc1 : upd H c (.tup vs) c = some (.tup vs) := upd_same
  revert sc hc1
  generalize upd H c (.tup vs) = H1
  intro sc hc1
  refine ⟨fp, c, fs.map V.str, vs, rfl, .inr ⟨hF H1, .inl (.inl hc1), fun D nD => ?_⟩⟩
  have hA1 := hA.keep (KeepO.of sc)
  refine lc_it (walk_zipT (xs := fs.map V.str) (ys := vs) (n := fs.length) (by rw [List.length_map]) (by omega)) (fun i H' => ∃ us, H' D = some (.lst us) ∧ DpAll K H' us (exprs (fs.take i) (r.take i)) ∧ ∀ b o, b ≠ D → H1 b = some o → H' b = some o) ?_ ?_ ?_ ?_
  · refine ⟨[], upd_same, ?_, fun b o nb e => by rw [upd_ne nb]; exact e⟩
    simp only [List.take_zero, exprs]
    exact .nil
  · rintro i H' _ ⟨us, _, _, kp⟩
    exact ⟨hF H', .inl (.inl (kp _ _ (ne_of_none hc1 nD) hc1))⟩
  · rintro i x H2 H' hi ⟨us, hD, hU, kp⟩ ⟨T1, x1, y1, rfl, hT, rfl, hx1, hy1⟩
    replace hx1 : (fs.map V.str)[i]? = some x1 := hx1
    replace hy1 : vs[i]? = some y1 := hy1
    rw [List.getElem?_map] at hx1
    obtain ⟨fi, hfi, rfl⟩ := Option.map_eq_some_iff.mp hx1
    have sT := same_upd (o := .tup [.str fi, y1]) hT
    have s12 : Same H1 H2 := fun b o e => kp b o (ne_of_none e nD) e
    obtain ⟨di, hdi, hyd⟩ := dd_at (hA1.keep (KeepO.of (s12.trans sT))) hy1
    have hDT := sT _ _ hD
    have hxt := exprs_take hfi hdi
    have lu := dpAll_len hU
    have hle := exprs_len (fs := fs.take i) (ds := r.take i)
    have h2 : (fs.take i).length ≤ fs.length := by
      rw [List.length_take]
      omega
    have fl : flatDs (exprs (fs.take i) (r.take i)) = true := flatDs_of fun y hy => by
      have hfz := fitsAllS_take hf i
      exact isX_flat (exprs_isX hfz y hy).1
    have hU2 := dp_keepAll (KeepT.of sT) _ _ fl hU
    refine ⟨_, _, rfl, .inl (.inl upd_same), rfl, _, _, rfl, _, _, rfl, rfl, rfl, .str fi, rfl, rfl, _, rfl, ?_⟩
    rw [show decide (V.str fi = V.str "name") = decide (fi = "name") from decide_eq_decide.mpr ⟨fun e => V.str.inj e, fun e => by rw [e]⟩]
    by_cases e1 : fi = "name"
    · rw [decide_eq_true e1]
      refine iteF ⟨us, hDT, ?_, fun b o nb e => sT _ _ (kp b o nb e)⟩
      rw [hxt, if_pos e1, List.append_nil]
      exact hU2
    · rw [decide_eq_false e1]
      have hfi2 := fitsAllS_at hf hfi hdi
      unfold fitsS at hfi2
      rw [if_neg e1, Bool.and_eq_true] at hfi2
      have fd := isX_flat hfi2.1
      have k3 : KeepT (upd H2 T1 (.tup [.str fi, y1])) (upd (upd H2 T1 (.tup [.str fi, y1])) D (.lst (us ++ [y1]))) := KeepT.lst hDT
      refine iteT ⟨y1, rfl, us, hDT, small1000 (by omega), us ++ [y1], upd_same, ?_, fun b o nb e => ?_⟩
      · rw [hxt, if_neg e1]
        exact dpAll_append (dp_keepAll k3 _ _ fl hU2) (.cons (dp_keep k3 _ _ fd (dp_of di y1 fd hyd)) .nil)
      · rw [upd_ne nb]
        exact sT _ _ (kp b o nb e)
  · rintro H2 ⟨us, hD, hU, kp⟩
    rw [List.take_length, hlen, List.take_length] at hU
    exact q H2 D us (sc.trans fun b o e => kp b o (ne_of_none e nD) e) (sc.free nD) hD hU (by omega)
end
end L10

namespace L10
open PySem PySem.Spec PyProof.Rows L2 GR AD RZ WX ZE TX
section
variable {P : Program} {w : World} {K : PySem.W.Frag} {mg : Str → Option Value} {base : Heap}
abbrev s_names_used : Stmt := topS 56
abbrev N_nus : List Str := ["statement", "part", "name"]
theorem sc_names_used : FnScope N_nus ["statement"] (defScope s_names_used) := ⟨rfl, rfl, rfl, by decide +kernel, rfl, by decide +kernel, by decide +kernel⟩
/-- its variables are among S -/
def varsIn (S : List Str) (d : PyData) : Prop := ∀ x, x ∈ kidsS d → allX (varQ fun z => decide (z ∈ S)) x = true
def sp_nus (K : PySem.W.Frag) : Sp := fun vs H Q _ => ∃ (v : V) (d : PyData) (ok : Addr → Prop) (S : List Str), vs = [v] ∧ Dd K ok H v d ∧ Sp' d ∧ S.length ≤ 60 ∧ varsIn S d ∧
  ∀ (H' : Hp) (p : Addr) (zs : List Str), Same H H' → H p = none → H' p = some (.lst (zs.map V.str)) → zs.length ≤ 360 → (∀ q, zs.all q = (kidsS d).all (allX (varQ q))) → Q (.ref p) H'
theorem ok_names_used {f fe fv : Addr} {fd de dv : FuncData} {k : Nat} (F : Fun K "names_used" "names_used" s_names_used f fd) (Ge : FnOk P w K mg base CX0 k fe de ["statement"] (sp_ein K)) (ge : mg "expressions_in" = some (.ref fe)) (Ke : PySem.W.keepIn K (.ref fe) = true) (be : Binds K de ["statement"] [])
    (Gv : FnOk P w K mg base CX0 k fv dv ["expression"] (sp_vs K)) (gv : mg "variables_of" = some (.ref fv)) (Kv : PySem.W.keepIn K (.ref fv) = true) (bv : Binds K dv ["expression"] []) : FnOk P w K mg base CX0 (k + 1) f fd ["statement"] (sp_nus K) := by
  have nd := sc_names_used.nd
  refine F.ok sc_names_used (fun vs H Q E h => ?_) (fun cdv A outer s H vs Q E hr h => ?_)
  · obtain ⟨v, d, ok, S, rfl, _⟩ := h
    rfl
  obtain ⟨v, d, ok, S, rfl, hd, hs, hS60, hv, q⟩ := h
  refine ⟨_, (pss_one (ps_ret (pe_lc2 (own := [("part", 1), ("name", 2)]) (vs1 := [2]) (wi1 := iTup K (tCall (sp_vs K) [] E0 (tCons (tVar 1) tNil))) rfl nd (pi_list (pe_call Ge hr (by rfl) ge Ke be .nil pass0 (pa_cons (pv 0) pa_nil))) (blkOk_by (N := N_nus) (sc := defScope s_names_used) (by decide +kernel)) (by decide)
      (fun _ _ _ _ _ => (pg_name (i := 1) nd rfl (Or.inl rfl))) (fun _ _ _ _ _ => pts_nil)
      (fun _ _ _ _ _ => pi_tup (pe_call Gv hr (by rfl) gv Kv bv .nil pass0 (pa_cons (pv 1) pa_nil))) (fun _ _ _ _ _ => (pg_name (i := 2) nd rfl (Or.inl rfl))) (fun _ _ _ _ _ => pts_nil)
      (fun _ _ _ _ _ => (pv 2))))), ?_⟩
  refine ⟨v, rfl, v, d, ok, rfl, hd, hs, fun H1 a us s1 na ha hA hl6 => ?_⟩
  refine ⟨a, rfl, ⟨us, .inl (.inl ha)⟩, fun D nD => ?_⟩
  have hxl := dpAll_len hA
  refine walk_body (xs := us) (fun i H' => ∃ zs : List Str, H' D = some (.lst (zs.map V.str)) ∧ zs.length ≤ 60 * i ∧ (∀ q, zs.all q = ((kidsS d).take i).all (allX (varQ q))) ∧ Same H1 H') ?_ ?_ ?_ ?_
  · refine ⟨[], upd_same, Nat.zero_le _, fun q => ?_, same_upd nD⟩
    rw [List.take_zero]
    rfl
  · rintro i H' _ ⟨zs, hD, hz, hq, kk⟩
    exact .inl (.inl (kk _ _ ha))
  · rintro i y H' hy ⟨zs, hD, hz, hq, kk⟩
    obtain ⟨x, hx, hyx⟩ := dpAll_at hA hy
    have hmem := List.mem_of_getElem? hx
    have ex := hs.kids x hmem
    have hi6 : i < (kidsS d).length := (List.getElem?_eq_some_iff.mp hx).1
    refine ⟨rfl, yes_then ⟨y, rfl, y, x, S, rfl, dp_keep (KeepT.of kk) _ _ (isX_flat ex.x) hyx, ex, hS60, hv x hmem, fun H2 p ys s2 np hp hl60 hqs => ⟨p, rfl, ⟨ys.map V.str, .inl (.inl hp)⟩, ?_⟩⟩⟩
    have hD2 := s2 _ _ hD
    have npD : D ≠ p := ne_of_none hD np
    refine walk_bodyT (xs := ys.map V.str) (fun j H3 => H3 D = some (.lst ((zs ++ ys.take j).map V.str)) ∧ (∀ b o, b ≠ D → H2 b = some o → H3 b = some o)) ?_ ?_ ?_ ?_
    · rw [List.take_zero, List.append_nil]
      exact ⟨hD2, fun b o _ e => e⟩
    · rintro j H3 _ ⟨_, k3⟩
      exact .inl (.inl (k3 _ _ npD.symm hp))
    · rintro j u H3 hu ⟨hD3, k3⟩
      rw [List.getElem?_map] at hu
      obtain ⟨z, hzj, rfl⟩ := Option.map_eq_some_iff.mp hu
      refine ⟨rfl, yes_then ⟨.str z, rfl, _, hD3, small1000 ?_, ?_, fun b o hb e => ?_⟩⟩
      · rw [List.length_map, List.length_append, List.length_take]
        omega
      · rw [upd_same, take_at hzj, ← List.append_assoc, List.map_append (l₁ := zs ++ ys.take j)]
        rfl
      · rw [upd_ne hb]
        exact k3 b o hb e
    · rintro H3 ⟨hD3, k3⟩
      rw [List.length_map, List.take_length] at hD3
      refine ⟨zs ++ ys, hD3, ?_, fun q => ?_, fun b o e => k3 b o (ne_of_none e nD) (s2 _ _ (kk _ _ e))⟩
      · rw [List.length_append]
        omega
      · rw [List.all_append, hq, hqs, take_at hx, List.all_append, List.all_cons, List.all_nil, Bool.and_true]
  · rintro H' ⟨zs, hD, hz, hq, kk⟩
    rw [hxl, List.take_length] at hq
    exact q H' D zs (s1.trans kk) (s1.free nD) hD (by omega) hq
/-! ### what is known -/
/-- the dict at a holds the names kn -/
def KnAt (H : Hp) (a : Addr) (kn : List Str) : Prop := ∃ kvs, H a = some (.dK kvs) ∧ kvs.map (·.1) = kn.map (Sum.inr : Str → Key)
theorem valV_keys : ∀ {kvs : List (Key × V)} {k : Key}, (valV kvs k).isSome = true ↔ k ∈ kvs.map Prod.fst
  | [], k => by
    rw [valV_nil]
    simp
  | p :: kvs, k => by
    have ih := valV_keys (kvs := kvs) (k := k)
    by_cases e : p.1 = k
    · rw [valV_pos e]
      simp [e]
    · rw [valV_neg e, ih, List.map_cons, List.mem_cons]
      exact ⟨.inr, fun h => h.resolve_left fun x => e x.symm⟩
theorem KnAt.has {H : Hp} {a : Addr} {kn : List Str} (h : KnAt H a kn) (z : Str) : ∃ o, DGet H a (.str z) o ∧ o.isSome = decide (z ∈ kn) := by
  obtain ⟨kvs, h1, h2⟩ := h
  refine ⟨_, DGet.k (k := .inr z) h1, ?_⟩
  rw [Bool.eq_iff_iff, valV_keys, h2, decide_eq_true_eq, List.mem_map]
  exact ⟨fun ⟨x, hx, e⟩ => by cases e; exact hx, fun hz => ⟨z, hz, rfl⟩⟩
theorem KnAt.put {H : Hp} {a : Addr} {kn : List Str} {kvs : List (Key × V)} (h1 : H a = some (.dK kvs)) (h2 : kvs.map (·.1) = kn.map (Sum.inr : Str → Key)) {zs : List Str} (hz : zs.length ≤ 1) (hn : ∀ z, z ∈ zs → z ∉ kn) :
    (mergeD kvs (zs.map fun z => ((.inr z : Key), V.bl true))).map (·.1) = (kn ++ zs).map (Sum.inr : Str → Key) := by
  match zs, hz with
  | [], _ => rw [List.append_nil]; exact h2
  | [z], _ =>
    have hk : valV kvs (.inr z) = none := by
      cases c : valV kvs (.inr z) with
      | none => rfl
      | some x =>
        have h3 := (valV_keys (kvs := kvs) (k := .inr z)).mp (by rw [c]; rfl)
        rw [h2] at h3
        obtain ⟨y, hy, e⟩ := List.mem_map.mp h3
        cases e
        exact (hn z (List.mem_singleton.mpr rfl) hy).elim
    show (putK kvs (.inr z) (.bl true)).map (·.1) = _
    rw [putK_new _ hk, List.map_append, h2, List.map_append]
    rfl
theorem letsL_le (d : PyData) : (letsL d).length ≤ 1 := by
  unfold letsL
  split
  · split <;> simp
  · simp
end
end L10

namespace L10
open PySem PySem.Spec PyProof.Rows L2 GR AD RZ WX ZE TX
def mayF (d : PyData) (kn : List Str) : Bool := !(letsL d).any (fun z => decide (z ∈ kn)) && (kidsS d).all (allX (varQ fun z => decide (z ∈ kn)))
/-- a transaction, from its statements, behind the names kn -/
def goT : List Str → List PyData → Bool
  | _, [] => true
  | kn, d :: ds => isSt d && (mayF d kn && goT (kn ++ letsL d) ds)
section
variable {P : Program} {w : World} {K : PySem.W.Frag} {mg : Str → Option Value} {base : Heap}
abbrev s_may_follow : Stmt := topS 54
abbrev N_mf : List Str := ["statement", "known", "name"]
theorem sc_may_follow : FnScope N_mf ["statement", "known"] (defScope s_may_follow) := ⟨rfl, rfl, rfl, by decide +kernel, rfl, by decide +kernel, by decide +kernel⟩
def sp_mf (K : PySem.W.Frag) : Sp := fun vs H Q _ => ∃ (v : V) (d : PyData) (ok : Addr → Prop) (a : Addr) (kn S : List Str), vs = [v, .ref a] ∧ Dd K ok H v d ∧ Sp' d ∧ KnAt H a kn ∧ S.length ≤ 60 ∧ varsIn S d ∧ ∀ H', Same H H' → Q (.bl (mayF d kn)) H'
theorem KnAt.keep {H H' : Hp} {a : Addr} {kn : List Str} (h : KnAt H a kn) (s : Same H H') : KnAt H' a kn := by
  obtain ⟨kvs, h1, h2⟩ := h
  exact ⟨kvs, s _ _ h1, h2⟩
theorem ok_may_follow {f fl fu : Addr} {fd dl du : FuncData} {k : Nat} (F : Fun K "may_follow" "may_follow" s_may_follow f fd) (Gl : FnOk P w K mg base CX0 k fl dl ["statement"] (sp_nl K)) (gl : mg "names_let" = some (.ref fl)) (Kl : PySem.W.keepIn K (.ref fl) = true) (bl : Binds K dl ["statement"] [])
    (Gu : FnOk P w K mg base CX0 k fu du ["statement"] (sp_nus K)) (gu : mg "names_used" = some (.ref fu)) (Ku : PySem.W.keepIn K (.ref fu) = true) (bu : Binds K du ["statement"] []) (mall : mg "all" = none) (many : mg "any" = none) : FnOk P w K mg base CX0 (k + 1) f fd ["statement", "known"] (sp_mf K) := by
  have nd := sc_may_follow.nd
  refine F.ok sc_may_follow (fun vs H Q E h => ?_) (fun cdv A outer s H vs Q E hr h => ?_)
  · obtain ⟨v, d, ok, a, kn, S, rfl, _⟩ := h
    rfl
  obtain ⟨v, d, ok, a, kn, S, rfl, hd, hs, hk, hS60, hv, q⟩ := h
  have hu1 := hu_of hr
  refine ⟨_, (pss_cons (ps_if (pt_val (pe_callB (cr_any rfl) (by rfl) many boot_any (pa_cons (pe_lc (own := [("name", 2)]) (tt := tYes) (te := tDIn (tVar 2) (tVar 1)) rfl nd (pi_keys (pe_frz (pe_call Gl hr (by rfl) gl Kl bl .nil pass0 (pa_cons (pv 0) pa_nil)))) (blkOk_by (N := N_mf) (sc := defScope s_may_follow) (by decide +kernel)) (fun _ _ _ _ _ => (pg_name (i := 2) nd rfl (Or.inl rfl))) (fun _ _ _ _ _ => pts_nil) (fun _ _ _ _ _ => pe_cmp (pc_din hu1 (pv 2) (pv 1)))) pa_nil)))
      (pss_one (ps_ret pe_bl))
      pss_nil)
      (pss_one (ps_ret (pe_callB (cr_all rfl) (by rfl) mall boot_all (pa_cons (pe_lc (own := [("name", 2)]) (tt := tYes) (te := tDIn (tVar 2) (tVar 1)) rfl nd (pi_list (pe_call Gu hr (by rfl) gu Ku bu .nil pass0 (pa_cons (pv 0) pa_nil))) (blkOk_by (N := N_mf) (sc := defScope s_may_follow) (by decide +kernel)) (fun _ _ _ _ _ => (pg_name (i := 2) nd rfl (Or.inl rfl))) (fun _ _ _ _ _ => pts_nil) (fun _ _ _ _ _ => pe_cmp (pc_din hu1 (pv 2) (pv 1)))) pa_nil))))), ?_⟩
  refine ⟨v, rfl, v, d, ok, rfl, hd, hs.st, fun H1 p s1 np hp => ⟨p, _, rfl, hp, trivial, fun od => ⟨p, od, rfl, .inl ⟨letK d, upd_same, fun D nD => ?_⟩⟩⟩⟩
  have s2 : Same H (upd H1 p (.frz od (.dK (letK d)))) := fun b o e => by
    rw [upd_ne (ne_of_none e np)]
    exact s1 _ _ e
  have hp2 : upd H1 p (.frz od (.dK (letK d))) p = some (.frz od (.dK (letK d))) := upd_same
  revert s2 hp2 nD
  generalize upd H1 p (.frz od (.dK (letK d))) = H2
  intro nD s2 hp2
  have hll := letsL_le d
  refine lc_it walk_keys (fun i H' => H' D = some (.lst (((letsL d).take i).map fun z => V.bl (decide (z ∈ kn)))) ∧ Same H2 H') ?_ ?_ ?_ ?_
  · exact ⟨upd_same, same_upd nD⟩
  · rintro i H' _ ⟨_, kk⟩
    exact kk _ _ hp2
  · rintro i x H' H'' hi ⟨hD, kk⟩ ⟨rfl, ky, u, hku, rfl⟩
    rw [List.getElem?_map] at hku
    obtain ⟨z, hz, e⟩ := Option.map_eq_some_iff.mp hku
    cases e
    obtain ⟨o, g1, g2⟩ := (hk.keep (s2.trans kk)).has z
    refine ⟨rfl, yes_then ⟨.str z, rfl, .ref a, rfl, a, o, rfl, g1, _, hD, small1000 ?_, ?_, fun b o e => ?_⟩⟩
    · rw [List.length_map, List.length_take]
      omega
    · rw [upd_same, take_at hz, List.map_append, g2]
      rfl
    · rw [upd_ne (ne_of_none e nD)]
      exact kk _ _ e
  · rintro H3 ⟨hD, kk⟩
    rw [List.length_map, List.take_length] at hD
    refine ⟨D, (letsL d).map fun z => decide (z ∈ kn), rfl, .inl (.inl (by rw [hD, List.map_map]; rfl)), ?_⟩
    have s3 := s2.trans kk
    rw [List.any_map]
    refine ⟨_, rfl, ?_⟩
    show if ((letsL d).any fun z => decide (z ∈ kn)) = true then _ else _
    unfold mayF at q
    cases c : (letsL d).any fun z => decide (z ∈ kn) with
    | true =>
      rw [c] at q
      exact iteT (q H3 s3)
    | false =>
    rw [c] at q
    simp only [Bool.not_false, Bool.true_and] at q
    refine iteF ⟨v, rfl, v, d, ok, S, rfl, hd.keep (KeepO.of s3), hs, hS60, hv, fun H4 pn zs s4 npn hpn hzl hzq => ⟨pn, rfl, ⟨_, .inl (.inl hpn)⟩, fun D2 nD2 => ?_⟩⟩
    refine walk_body (xs := zs.map V.str) (fun i H' => H' D2 = some (.lst (((zs.take i).map fun z => decide (z ∈ kn)).map V.bl)) ∧ Same H4 H') ?_ ?_ ?_ ?_
    · exact ⟨upd_same, same_upd nD2⟩
    · rintro i H' _ ⟨_, k4⟩
      exact .inl (.inl (k4 _ _ hpn))
    · rintro i y H' hy ⟨hD2, k4⟩
      rw [List.getElem?_map] at hy
      obtain ⟨z, hz, rfl⟩ := Option.map_eq_some_iff.mp hy
      obtain ⟨o, g1, g2⟩ := (hk.keep (s3.trans (s4.trans k4))).has z
      refine ⟨rfl, yes_then ⟨.str z, rfl, .ref a, rfl, a, o, rfl, g1, _, hD2, small1000 ?_, ?_, fun b o e => ?_⟩⟩
      · rw [List.length_map, List.length_map, List.length_take]
        omega
      · rw [upd_same, take_at hz, List.map_append, List.map_append, g2]
        rfl
      · rw [upd_ne (ne_of_none e nD2)]
        exact k4 _ _ e
    · rintro H5 ⟨hD2, k4⟩
      rw [List.length_map, List.take_length] at hD2
      refine ⟨D2, _, rfl, .inl (.inl hD2), ?_⟩
      rw [List.all_map]
      have := q H5 (s3.trans (s4.trans k4))
      rw [← hzq] at this
      exact this
theorem small1000' {n : Nat} (h : n ≤ 8000000) : n ≤ sizeLine := by
  rw [sizeLine_eq]
  omega
mutual
/-- a text of the data is among S -/
def txS (S : List Str) : PyData → Bool
  | .tuple ds => txSs S ds
  | .str z => decide (z ∈ S)
  | _ => true
def txSs (S : List Str) : List PyData → Bool
  | [] => true
  | d :: ds => txS S d && txSs S ds
end
theorem txSs_mem {S : List Str} : ∀ {ds : List PyData}, txSs S ds = true → ∀ d, d ∈ ds → txS S d = true
  | [], _, d, h => (nomatch h)
  | x :: ds, h, d, hd => by
    rw [txSs, Bool.and_eq_true] at h
    rcases List.mem_cons.mp hd with rfl | hd
    · exact h.1
    · exact txSs_mem h.2 d hd
theorem pick_tx (W : List Str) {S : List Str} : ∀ {fs : List Str} {ds : List PyData}, (∀ d, d ∈ ds → txS S d = true) → ∀ y, y ∈ pick W fs ds → txS S y = true
  | [], _, _, y, hy => by simp only [pick, List.not_mem_nil] at hy
  | f :: fs, [], _, y, hy => by simp only [pick, List.not_mem_nil] at hy
  | f :: fs, d :: ds, h, y, hy => by
    rw [pick] at hy
    have hd := h d List.mem_cons_self
    rcases List.mem_append.mp hy with hy | hy
    · split at hy
      · cases d with
        | tuple xs =>
          rw [txS] at hd
          exact txSs_mem hd y hy
        | _ => exact (nomatch hy)
      · split at hy
        · rw [List.mem_singleton.mp hy]
          exact hd
        · exact (nomatch hy)
    · exact pick_tx W (fun x hx => h x (List.mem_cons_of_mem _ hx)) y hy
theorem txS_vars {S : List Str} {d : PyData} (h : txS S d = true) : allX (varQ fun z => decide (z ∈ S)) d = true := by
  refine allX_of (P := fun y => txS S y = true) (fun y hy => ⟨?_, fun z hz => ?_⟩) (sz d) d (Nat.le_refl _) h
  · unfold varQ
    cases c : varName y with
    | none => rfl
    | some z =>
      unfold varName at c
      split at c
      · rename_i w z' r
        split at c
        · cases c
          rw [txS, txSs, txSs, Bool.and_eq_true, Bool.and_eq_true] at hy
          exact hy.2.1
        · cases c
      · cases c
  · unfold kidsE at hz
    split at hz
    · rename_i w r
      split at hz
      · rw [txS, txSs, Bool.and_eq_true] at hy
        exact pick_tx W2 (txSs_mem hy.2) z hz
      · exact (nomatch hz)
    · exact (nomatch hz)
theorem txS_in {S : List Str} {d : PyData} (h : txS S d = true) (hs : isSt d = true) : varsIn S d := fun x hx => by
  obtain ⟨w, fs, r, rfl, lk, hf⟩ := isSt_inv hs
  rw [kidsS_some lk] at hx
  rw [txS, txSs, Bool.and_eq_true] at h
  exact txS_vars (txSs_mem h.2 x (exprs_isX hf x hx).2.2)
/-- what may be asked whether it is a statement -/
structure Zp (S : List Str) (d : PyData) : Prop where
  tx : txS S d = true
  ys : ∀ ds, d = .tuple ds → ∀ y, y ∈ ds → Yp y
end
end L10

/-! t[::-1] of a tuple; list(t) not where the modules are. -/
namespace RVT
open PySem PySem.Spec PyProof.Rows L2 HT
theorem adjust_rev (n : Nat) : Builtin.Slice.sliceAdjust none none (-1) (n : Int) = ((n : Int) - 1, -1) := by
  unfold Builtin.Slice.sliceAdjust
  have h1 : ((-1 : Int) < 0) := by decide
  simp only [h1, if_true]
theorem places_rev (n : Nat) : Builtin.Slice.slicePlaces ((n : Int) - 1) (-1) (-1) = n := by
  unfold Builtin.Slice.slicePlaces
  have h1 : ¬ ((-1 : Int) > 0) := by decide
  simp only [h1, if_false]
  by_cases h : (n : Int) - 1 > -1
  · rw [if_pos h, show (- -1 : Int) = 1 by decide, Int.ediv_one]
    omega
  · rw [if_neg h]
    omega
theorem pick_rev (xs : Array Value) : ((List.range xs.size).filterMap fun (m : Nat) => xs[((xs.size : Int) - 1 + (m : Int) * (-1)).toNat]?).toArray = xs.toList.reverse.toArray := by
  have e : (List.range xs.size).filterMap (fun (m : Nat) => xs[((xs.size : Int) - 1 + (m : Int) * (-1)).toNat]?) = ((List.range xs.size).map fun k => xs.size - 1 - k).filterMap (xs[·]?) := by
    have g : ∀ l : List Nat, (∀ m, m ∈ l → m < xs.size) → l.filterMap (fun (m : Nat) => xs[((xs.size : Int) - 1 + (m : Int) * (-1)).toNat]?) = (l.map fun k => xs.size - 1 - k).filterMap (xs[·]?) := by
      intro l
      induction l with
      | nil => intro _; rfl
      | cons m l ih =>
        intro h
        have hm := h m List.mem_cons_self
        have e1 : ((xs.size : Int) - 1 + (m : Int) * (-1)).toNat = xs.size - 1 - m := by omega
        rw [List.map_cons, List.filterMap_cons, List.filterMap_cons, e1, ih fun y hy => h y (List.mem_cons_of_mem _ hy)]
    exact g _ fun m hm => List.mem_range.mp hm
  rw [e, PySem.W.krv_range, List.filterMap_reverse, PySem.W.krv_all]
section
variable {prog : Program} {w : World} {A : Around} {E : Value → Shared → Prop} {s : Shared}
theorem sliceApplied_rev {sl : Addr} {vl vu vs : Value} {n : Nat} {Q : Int × Int × Nat → Shared → Prop} (hs : s.heap.IsSliceOf sl vl vu vs) (pl : IsPart vl none) (pu : IsPart vu none) (ps : IsPart vs (some (-1)))
    (h : Q ((n : Int) - 1, -1, n) s) : wpAny (model prog w) A (Builtin.Slice.sliceApplied (.ref sl) (pure (n : Int))) Q E s := by
  obtain ⟨os, hos, hcs, hds⟩ := id hs
  unfold Builtin.Slice.sliceApplied Builtin.Slice.sliceFields
  refine wpAny_bind (wpAny_bind (wpAny_field hos hds (x := vl) rfl (wpAny_bind (wpAny_field hos hds (x := vu) rfl (wpAny_bind (wpAny_field hos hds (x := vs) rfl (wpAny_pure ?_)))))))
  refine wpAny_bind (slicePart_ ps ?_)
  show wpAny _ _ (if ((-1 : Int) == 0) = true then _ else _) _ _ s
  rw [if_neg (by decide)]
  refine wpAny_bind (slicePart_ pl (wpAny_bind (slicePart_ pu (wpAny_bind (wpAny_pure ?_)))))
  show wpAny _ _ (match Builtin.Slice.sliceAdjust none none (-1) (n : Int) with | (lo, hi) => pure (lo, (-1 : Int), Builtin.Slice.slicePlaces lo hi (-1))) _ _ s
  rw [adjust_rev]
  show wpAny _ _ (pure ((n : Int) - 1, (-1 : Int), Builtin.Slice.slicePlaces ((n : Int) - 1) (-1) (-1))) _ _ s
  rw [places_rev]
  exact wpAny_pure h
theorem getItem_tuple_rev {t sl : Addr} {items : Array Value} {vl vu vs : Value} {Q : Value → Shared → Prop} (ht : IsTup s.heap t items) (hs : s.heap.IsSliceOf sl vl vu vs) (pl : IsPart vl none) (pu : IsPart vu none) (ps : IsPart vs (some (-1)))
    (h : Q (.ref s.heap.objs.size) { s with heap := s.heap.push { cls := .type "tuple", data := .seq items.toList.reverse.toArray } })
    (hsz : items.size ≤ sizeLine) : wpAny (model prog w) A (getItem (.ref t) (.ref sl)) Q E s := by
  have htake : sizeOk (.seq items.toList.reverse.toArray) := by
    show items.toList.reverse.toArray.size ≤ sizeLine
    rw [List.size_toArray, List.length_reverse, Array.length_toList]
    exact hsz
  obtain ⟨os, hos, hcs, hds⟩ := id hs
  have hTs : s.TypeIs (.ref sl) "slice" := ⟨os, hos, hcs⟩
  unfold getItem
  try with_reducible refine wpAny_holding ?_
  first | refine wpAny_bind (wpAny_pure ?_) | skip
  refine wpAny_bind (wpAny_sequenceKey ht.typeIs (by decide) ?_)
  refine wpAny_bind (wpAny_callSpecial?_slot (name := Str.ofString "__getitem__") ht.typeIs PyProof.Rows.slot_tuple_getitem
    (wpAny_call_entry PyProof.Rows.slot_tuple_getitem ht.typeIs entry_tuple_getitem ?_ (args_tuple_getitem _ _)))
  show wpAny _ _ (Builtin.Tuple.tupleItemsOf (.ref t) >>= _) _ _ s
  refine wpAny_bind (tupleItemsOf_ ht ?_)
  refine wpAny_bind (wpAny_typeOf hTs ?_)
  rw [if_pos (by decide)]
  refine wpAny_bind (sliceApplied_rev hs pl pu ps ?_)
  have hno : ¬ ((((items.size : Int) - 1) == 0 && (-1 : Int) == 1 && items.size == items.size) = true) := by
    intro q
    rw [Bool.and_eq_true, Bool.and_eq_true] at q
    exact absurd q.1.2 (by decide)
  show wpAny _ _ (if (((items.size : Int) - 1) == 0 && (-1 : Int) == 1 && items.size == items.size) = true then _ else _) _ _ s
  rw [if_neg hno, pick_rev]
  first
    | exact wpAny_bind (m := Builtin.Tuple.tupleExact _) (wpAny_newObj_type (wpAny_pure ⟨_, rfl, wpAny_pure h⟩) htake)
    | exact wpAny_bind (m := Builtin.Tuple.tupleExact _) (wpAny_newObj_type (wpAny_bind (wpAny_pure (wpAny_pure ⟨_, rfl, wpAny_pure h⟩))) htake)
    | exact wpAny_bind (wpAny_bind (m := Builtin.Tuple.tupleExact _) (wpAny_newObj_type (wpAny_pure (wpAny_pure ⟨_, rfl, wpAny_pure h⟩)) htake))
    | exact wpAny_bind (wpAny_bind (m := Builtin.Tuple.tupleExact _) (wpAny_newObj_type (wpAny_pure ⟨_, rfl, wpAny_pure h⟩) htake))
end
section
variable {X : Cx}
def tRevT (K : PySem.W.Frag) (te : TE) : TE := fun σ H Q => te σ H fun x H1 => ∃ a xs, x = .ref a ∧ SqT K H1 a xs ∧ ∀ p, H1 p = none → Q (.ref p) (upd H1 p (.tup xs.reverse))
theorem pe_revT {e : Expr} {te : TE} {k : Nat} {p1 p2 p3 pos : Pos} (he : PE X e te) : PE X (.Subscript e (.Slice none none (some (.UnaryOp .USub (.Constant (.int 1) k p1) p2)) p3) pos) (tRevT X.K te) := by
  refine ⟨fun pins s σ H Q I h => ?_⟩
  refine Subscript_ (thn (he.run pins s σ H _ I h) fun v s1 ⟨x, H1, I1, r1, q1⟩ => ?_)
  obtain ⟨a, xs, ex, hx, q⟩ := q1
  subst ex
  cases r1
  have hst : PO X (some (.UnaryOp .USub (.Constant (.int 1) k p1) p2)) (tPart (tUn (rU fun i => .int (-i)) (tC (.int 1)))) := po_some (pe_un un_neg pe_int)
  refine wpAny_Slice (thn (po_none.run pins s1 σ H1 (fun o H2 => o = none ∧ H2 = H1) I1 ⟨rfl, rfl⟩) fun vl s2 ⟨l, H2, I2, pl, el, e2⟩ => ?_)
  subst el e2
  refine thn (po_none.run pins s2 σ H2 (fun o H3 => o = none ∧ H3 = H2) I2 ⟨rfl, rfl⟩) fun vu s3 ⟨u, H3, I3, pu, eu, e3⟩ => ?_
  subst eu e3
  refine thn (hst.run pins s3 σ H3 (fun o H4 => o = some (-1) ∧ H4 = H3) I3 ⟨1, rfl, -1, rfl, rfl, rfl⟩) fun vs s4 ⟨o, H4, I4, ps, eo, e4⟩ => ?_
  subst eo e4
  have I5 : Inv X pins σ H4 { s4 with heap := s4.heap.push { cls := .type "slice", data := .fields #[vl, vu, vs] } } := I4.kept (t' := s4.toks) fun b ob q => Heap.get?_push_of_some _ q
  obtain ⟨its, r, ht, hz⟩ := I5.tuple hx
  have hlen := r.length
  show wpAny (model X.prog X.w) X.A (subscriptTail e (.Slice none none (some (.UnaryOp .USub (.Constant (.int 1) k p1) p2)) p3) (.ref a) (.ref s4.heap.objs.size)) (EP X pins σ Q) X.xe { s4 with heap := s4.heap.push { cls := .type "slice", data := .fields #[vl, vu, vs] } }
  refine tail_any (ops := [.ref a, .ref s4.heap.objs.size]) ht.typeIs (PyProof.Rows.slot_tuple_getitem.lookup) ?_ (by with_unfolding_all rfl)
  refine getItem_tuple_rev ht (Heap.IsSliceOf.new _ vl vu vs) pl pu ps ?_ (by rw [List.size_toArray]; omega)
  refine ⟨.ref _, _, I5.laid (t' := s4.toks) (o := .tup xs.reverse) (fun b ob q => Heap.get?_push_of_some _ q) (Nat.le_refl _) ?_, rfl, q _ (I5.hok.fresh (Nat.le_refl _))⟩
  exact ⟨by rw [List.length_reverse]; exact hz, _, r.reverse, IsTup.new _ _⟩
/-- list(t), a new one -/
theorem call_listS : CallR X (.type "list") (fun xs H Q => ∃ p ys, xs = [.ref p] ∧ SqT X.K H p ys ∧ ∀ l, H l = none → l ≠ sysModules → Q (.ref l) (upd H l (.lst ys))) := by
  intro pins s σ H xs us Q I r h
  obtain ⟨p, ys, rfl, hq, q⟩ := h
  obtain ⟨u, rfl, rx⟩ := vals1 r
  cases rx
  have far : s.heap.objs.size ≠ sysModules := (Nat.ne_of_lt I.big).symm
  have fin : ∀ (its : List Value), Vals ys its → ys.length ≤ sizeLine → ∀ (h' : Heap) (c' : Nat), (∀ b o', s.heap.get? b = some o' → h'.get? b = some o') →
      h'.get? s.heap.objs.size = some { cls := .type "list", dict := none, data := .seq its.toArray c', slots := #[] } → EP X pins σ Q (.ref s.heap.objs.size) { s with heap := h' } := fun its r' hz h' c' kp e =>
    ⟨.ref s.heap.objs.size, _, I.laid (t' := s.toks) kp (Nat.le_refl _) (show ObjOk X.prog X.w _ h' _ (.lst ys) from ⟨hz, its, c', r', e⟩), rfl, q _ (I.hok.fresh (Nat.le_refl _)) far⟩
  obtain ⟨its, r', pl, hz⟩ := I.tuple hq
  have hlen := r'.length
  obtain ⟨o, ho, hc, n, hd⟩ := pl
  exact call_list_seq p (.inr rfl) ho hc hd (fun h' c' kp e => fin its r' hz h' c' kp e) (by simp only [List.size_toArray] <;> omega)
end
end RVT

namespace L10
open PySem PySem.Spec PyProof.Rows L2 GR AD RZ WX ZE TX RVT
/-! ### bounds of what may be asked about -/
def okC (c : Nat) : Bool := decide (32 ≤ c) && decide (c < 127) && (decide (c ≠ 39) && decide (c ≠ 92))
mutual
/-- its texts are among S, short and of plain signs; its numbers are small -/
def atB (S : List Str) (q m : Nat) : PyData → Bool
  | .tuple ds => atBs S q m ds
  | .list ds => atBs S q m ds
  | .dict kvs => atBk S q m kvs
  | .str z => decide (z ∈ S) && (decide (z.length ≤ q) && z.cps.toList.all okC)
  | .int i => decide (i.natAbs ≤ m)
  | _ => true
def atBs (S : List Str) (q m : Nat) : List PyData → Bool
  | [] => true
  | d :: ds => atB S q m d && atBs S q m ds
def atBk (S : List Str) (q m : Nat) : List (PyData × PyData) → Bool
  | [] => true
  | (k, v) :: r => (atB S q m k && atB S q m v) && atBk S q m r
end
theorem okC_iff {c : Nat} : okC c = true ↔ (32 ≤ c ∧ c < 127) ∧ (c ≠ 39 ∧ c ≠ 92) := by
  unfold okC
  simp only [Bool.and_eq_true, decide_eq_true_eq]
section
variable {S S' : List Str} {q m q' m' : Nat}
mutual
theorem at_mono (hS : ∀ z, z ∈ S → z ∈ S') (hq : q ≤ q') (hm : m ≤ m') : ∀ d : PyData, atB S q m d = true → atB S' q' m' d = true
  | .tuple ds, h => by rw [atB] at h ⊢; exact ats_mono hS hq hm ds h
  | .list ds, h => by rw [atB] at h ⊢; exact ats_mono hS hq hm ds h
  | .dict kvs, h => by rw [atB] at h ⊢; exact atk_mono hS hq hm kvs h
  | .str z, h => by
    rw [atB, Bool.and_eq_true, Bool.and_eq_true, decide_eq_true_eq, decide_eq_true_eq] at h ⊢
    exact ⟨hS _ h.1, Nat.le_trans h.2.1 hq, h.2.2⟩
  | .int i, h => by
    rw [atB, decide_eq_true_eq] at h ⊢
    omega
  | .none, _ => by rw [atB] <;> simp
  | .bool _, _ => by rw [atB] <;> simp
theorem ats_mono (hS : ∀ z, z ∈ S → z ∈ S') (hq : q ≤ q') (hm : m ≤ m') : ∀ ds : List PyData, atBs S q m ds = true → atBs S' q' m' ds = true
  | [], _ => by rw [atBs]
  | d :: ds, h => by
    rw [atBs, Bool.and_eq_true] at h ⊢
    exact ⟨at_mono hS hq hm d h.1, ats_mono hS hq hm ds h.2⟩
theorem atk_mono (hS : ∀ z, z ∈ S → z ∈ S') (hq : q ≤ q') (hm : m ≤ m') : ∀ ds : List (PyData × PyData), atBk S q m ds = true → atBk S' q' m' ds = true
  | [], _ => by rw [atBk]
  | (k, v) :: ds, h => by
    rw [atBk, Bool.and_eq_true, Bool.and_eq_true] at h ⊢
    exact ⟨⟨at_mono hS hq hm k h.1.1, at_mono hS hq hm v h.1.2⟩, atk_mono hS hq hm ds h.2⟩
end
theorem ok_so {z : Str} (h : z.cps.toList.all okC = true) : SO z := fun c hc => by
  have := okC_iff.mp (List.all_eq_true.mp h c hc)
  omega
mutual
theorem at_tx : ∀ d : PyData, atB S q m d = true → txS S d = true
  | .tuple ds, h => by rw [atB] at h; rw [txS]; exact ats_tx ds h
  | .list ds, h => by simp [txS]
  | .dict kvs, h => by simp [txS]
  | .str z, h => by
    rw [atB, Bool.and_eq_true] at h
    rw [txS]
    exact h.1
  | .int i, h => by simp [txS]
  | .none, _ => by simp [txS]
  | .bool _, _ => by simp [txS]
theorem ats_tx : ∀ ds : List PyData, atBs S q m ds = true → txSs S ds = true
  | [], _ => by rw [txSs]
  | d :: ds, h => by
    rw [atBs, Bool.and_eq_true] at h
    rw [txSs, at_tx d h.1, ats_tx ds h.2]
    rfl
end
mutual
theorem at_sh (hq : q ≤ 1000) : ∀ d : PyData, atB S q m d = true → shB d = true
  | .tuple ds, h => by rw [atB] at h; rw [shB]; exact ats_sh hq ds h
  | .list ds, h => by simp [shB]
  | .dict kvs, h => by simp [shB]
  | .str z, h => by
    rw [atB, Bool.and_eq_true, Bool.and_eq_true, decide_eq_true_eq, decide_eq_true_eq] at h
    rw [shB, so_iff.mpr (ok_so h.2.2), Bool.and_true]
    exact decide_eq_true (Nat.le_trans h.2.1 hq)
  | .int i, h => by simp [shB]
  | .none, _ => by simp [shB]
  | .bool _, _ => by simp [shB]
theorem ats_sh (hq : q ≤ 1000) : ∀ ds : List PyData, atBs S q m ds = true → shBs ds = true
  | [], _ => by rw [shBs]
  | d :: ds, h => by
    rw [atBs, Bool.and_eq_true] at h
    rw [shBs, at_sh hq d h.1, ats_sh hq ds h.2]
    rfl
end
mutual
theorem at_shw (hm : m ≤ 10 ^ 41) : ∀ d : PyData, atB S q m d = true → d.showable = true
  | .tuple ds, h => by rw [atB] at h; simp only [PyData.showable]; exact ats_shw hm ds h
  | .list ds, h => by rw [atB] at h; simp only [PyData.showable]; exact ats_shw hm ds h
  | .dict kvs, h => by rw [atB] at h; simp only [PyData.showable]; exact atk_shw hm kvs h
  | .str z, h => by simp only [PyData.showable]
  | .int i, h => by
    rw [atB, decide_eq_true_eq] at h
    simp only [PyData.showable]
    refine decide_eq_true ?_
    by_cases e : i.natAbs = 0
    · rw [e]; decide
    · exact (Nat.log2_lt e).mpr (Nat.lt_of_le_of_lt (Nat.le_trans h hm) (Nat.lt_of_lt_of_le (show 10 ^ 41 < 2 ^ 140 by decide) (Nat.pow_le_pow_right (by decide) (by decide))))
  | .none, _ => by simp only [PyData.showable]
  | .bool _, _ => by simp only [PyData.showable]
theorem ats_shw (hm : m ≤ 10 ^ 41) : ∀ ds : List PyData, atBs S q m ds = true → PyData.showableAll ds = true
  | [], _ => by simp only [PyData.showableAll]
  | d :: ds, h => by
    rw [atBs, Bool.and_eq_true] at h
    simp only [PyData.showableAll, at_shw hm d h.1, ats_shw hm ds h.2, Bool.and_self]
theorem atk_shw (hm : m ≤ 10 ^ 41) : ∀ ds : List (PyData × PyData), atBk S q m ds = true → PyData.showableKv ds = true
  | [], _ => by simp only [PyData.showableKv]
  | (k, v) :: ds, h => by
    rw [atBk, Bool.and_eq_true, Bool.and_eq_true] at h
    simp only [PyData.showableKv, at_shw hm k h.1.1, at_shw hm v h.1.2, atk_shw hm ds h.2, Bool.and_self]
end
mutual
theorem at_so : ∀ d : PyData, atB S q m d = true → SO d.shown
  | .none, _ => by rw [PyData.shown_none]; decide
  | .bool b, _ => by
    rw [PyData.shown_bool]
    cases b <;> decide
  | .int i, _ => shown_so (.int i) (by simp only [PyData.canLay0])
  | .str x, h => by
    rw [atB, Bool.and_eq_true, Bool.and_eq_true] at h
    exact shown_so (.str x) (by simp only [PyData.canLay0]; exact so_iff.mpr (ok_so h.2.2))
  | .list xs, h => by
    rw [PyData.shown_list]
    exact so_append (so_append (by decide) (so_join (by decide) (ats_so xs (by rw [atB] at h; exact h)))) (by decide)
  | .tuple xs, h => by
    rw [PyData.shown_tuple]
    refine so_append (so_append (by decide) (so_join (by decide) (ats_so xs (by rw [atB] at h; exact h)))) ?_
    split <;> decide
  | .dict kvs, h => by
    simp only [PyData.shown]
    exact so_append (so_append (by decide) (so_join (by decide) (atk_so kvs (by rw [atB] at h; exact h)))) (by decide)
theorem ats_so : ∀ xs : List PyData, atBs S q m xs = true → ∀ t, t ∈ PyData.shownAll xs → SO t
  | [], _, t, ht => by simp only [PyData.shownAll, List.not_mem_nil] at ht
  | x :: xs, h, t, ht => by
    rw [atBs, Bool.and_eq_true] at h
    simp only [PyData.shownAll, List.mem_cons] at ht
    rcases ht with rfl | ht
    · exact at_so x h.1
    · exact ats_so xs h.2 t ht
theorem atk_so : ∀ xs : List (PyData × PyData), atBk S q m xs = true → ∀ t, t ∈ PyData.shownKv xs → SO t
  | [], _, t, ht => by simp only [PyData.shownKv, List.not_mem_nil] at ht
  | (k, v) :: xs, h, t, ht => by
    rw [atBk, Bool.and_eq_true, Bool.and_eq_true] at h
    simp only [PyData.shownKv, List.mem_cons] at ht
    rcases ht with rfl | ht
    · exact so_append (so_append (at_so k h.1.1) (by decide)) (at_so v h.1.2)
    · exact atk_so xs h.2 t ht
end
end
mutual
/-- what its text takes at most -/
def wl : PyData → Nat
  | .tuple ds => wls ds + 3
  | .list ds => wls ds + 3
  | .dict kvs => (PyData.dict kvs).shown.length
  | .str z => (PyData.str z).shown.length
  | .int i => (PyData.int i).shown.length
  | .bool b => (PyData.bool b).shown.length
  | .none => PyData.none.shown.length
def wls : List PyData → Nat
  | [] => 0
  | d :: ds => wl d + 2 + wls ds
end
mutual
theorem shown_wl : ∀ d : PyData, d.shown.length ≤ wl d
  | .tuple ds => by
    have h1 := tupleText_len_le (PyData.shownAll ds)
    have h2 := shown_wls ds
    rw [PyData.shownAll_length] at h1
    simp only [PyData.shown, wl]
    omega
  | .list ds => by
    have h1 := listText_len_le (PyData.shownAll ds)
    have h2 := shown_wls ds
    rw [PyData.shownAll_length] at h1
    simp only [PyData.shown, wl]
    omega
  | .dict kvs => by rw [wl]; omega
  | .str z => by rw [wl]; omega
  | .int i => by rw [wl]; omega
  | .bool b => by rw [wl]; omega
  | .none => by rw [wl]; omega
theorem shown_wls : ∀ ds : List PyData, ((PyData.shownAll ds).map (·.length)).sum + 2 * ds.length ≤ wls ds
  | [] => by simp only [PyData.shownAll, List.map_nil, List.sum_nil, List.length_nil, wls]; omega
  | d :: ds => by
    have := shown_wl d
    have := shown_wls ds
    simp only [PyData.shownAll, List.map_cons, List.sum_cons, List.length_cons, wls]
    omega
end
theorem wls_append : ∀ (xs ys : List PyData), wls (xs ++ ys) = wls xs + wls ys
  | [], ys => by simp only [List.nil_append, wls, Nat.zero_add]
  | x :: xs, ys => by
    have := wls_append xs ys
    simp only [List.cons_append, wls]
    omega
theorem wls_le {b : PyData → Nat} : ∀ {ds : List PyData}, (∀ d, d ∈ ds → wl d + 2 ≤ b d) → wls ds ≤ (ds.map b).sum
  | [], _ => Nat.le_refl _
  | d :: ds, h => by
    have h1 := h d List.mem_cons_self
    have h2 := wls_le fun x hx => h x (List.mem_cons_of_mem _ hx)
    simp only [wls, List.map_cons, List.sum_cons]
    omega
theorem wl_tup (ds : List PyData) : wl (.tuple ds) ≤ wls ds + 3 := by
  rw [wl]
  omega
theorem wl_lst (ds : List PyData) : wl (.list ds) ≤ wls ds + 3 := by
  rw [wl]
  omega
/-- what one thing keeps -/
structure El (S : List Str) (q m p : Nat) (x : PyData) : Prop where
  dep : x.depth ≤ p
  at' : atB S q m x = true
structure Bd (S : List Str) (q m l s p : Nat) (x : PyData) : Prop extends El S q m p x where
  len : wl x ≤ l
  sz : sz x ≤ s
structure Bds (S : List Str) (q m l s p : Nat) (xs : List PyData) : Prop where
  els : ∀ y, y ∈ xs → El S q m p y
  len : wls xs ≤ l
  sz : szs xs ≤ s
section
variable {S : List Str} {q m : Nat}
theorem El.mono {p p' : Nat} {x : PyData} (h : El S q m p x) (e : p ≤ p') : El S q m p' x := ⟨Nat.le_trans h.dep e, h.at'⟩
theorem El.wide {S' : List Str} {q' m' p p' : Nat} {x : PyData} (h : El S q m p x) (hS : ∀ z, z ∈ S → z ∈ S') (hq : q ≤ q') (hm : m ≤ m') (e : p ≤ p') : El S' q' m' p' x := ⟨Nat.le_trans h.dep e, at_mono hS hq hm x h.at'⟩
theorem Bd.mono {l s p l' s' p' : Nat} {x : PyData} (h : Bd S q m l s p x) (hl : l ≤ l') (hs : s ≤ s') (hp : p ≤ p') : Bd S q m l' s' p' x := ⟨h.toEl.mono hp, Nat.le_trans h.len hl, Nat.le_trans h.sz hs⟩
theorem Bd.wide {S' : List Str} {q' m' l s p l' s' p' : Nat} {x : PyData} (h : Bd S q m l s p x) (hS : ∀ z, z ∈ S → z ∈ S') (hq : q ≤ q') (hm : m ≤ m') (hl : l ≤ l') (hs : s ≤ s') (hp : p ≤ p') : Bd S' q' m' l' s' p' x := ⟨h.toEl.wide hS hq hm hp, Nat.le_trans h.len hl, Nat.le_trans h.sz hs⟩
theorem Bds.wide {S' : List Str} {q' m' l s p l' s' p' : Nat} {xs : List PyData} (h : Bds S q m l s p xs) (hS : ∀ z, z ∈ S → z ∈ S') (hq : q ≤ q') (hm : m ≤ m') (hl : l ≤ l') (hs : s ≤ s') (hp : p ≤ p') : Bds S' q' m' l' s' p' xs := ⟨fun y hy => (h.els y hy).wide hS hq hm hp, Nat.le_trans h.len hl, Nat.le_trans h.sz hs⟩
theorem Bds.mono {l s p l' s' p' : Nat} {xs : List PyData} (h : Bds S q m l s p xs) (hl : l ≤ l') (hs : s ≤ s') (hp : p ≤ p') : Bds S q m l' s' p' xs := ⟨fun y hy => (h.els y hy).mono hp, Nat.le_trans h.len hl, Nat.le_trans h.sz hs⟩
theorem depthAll_of {p : Nat} : ∀ {xs : List PyData}, (∀ y, y ∈ xs → El S q m p y) → PyData.depthAll xs ≤ p
  | [], _ => by simp only [PyData.depthAll]; omega
  | x :: xs, h => by
    have h1 := (h x List.mem_cons_self).dep
    have h2 := depthAll_of fun y hy => h y (List.mem_cons_of_mem _ hy)
    simp only [PyData.depthAll]
    omega
theorem ats_of {p : Nat} : ∀ {xs : List PyData}, (∀ y, y ∈ xs → El S q m p y) → atBs S q m xs = true
  | [], _ => by rw [atBs]
  | x :: xs, h => by rw [atBs, (h x List.mem_cons_self).at', ats_of fun y hy => h y (List.mem_cons_of_mem _ hy)]; rfl
theorem El.tup {p : Nat} {xs : List PyData} (h : ∀ y, y ∈ xs → El S q m p y) : El S q m (p + 1) (.tuple xs) := by
  have := depthAll_of h
  exact ⟨by simp only [PyData.depth]; omega, by rw [atB]; exact ats_of h⟩
theorem El.lst {p : Nat} {xs : List PyData} (h : ∀ y, y ∈ xs → El S q m p y) : El S q m (p + 1) (.list xs) := by
  have := depthAll_of h
  exact ⟨by simp only [PyData.depth]; omega, by rw [atB]; exact ats_of h⟩
theorem Bds.tup {l s p : Nat} {xs : List PyData} (h : Bds S q m l s p xs) : Bd S q m (l + 3) (s + 1) (p + 1) (.tuple xs) :=
  ⟨El.tup h.els, by rw [wl]; have := h.len; omega, by rw [L10.sz]; have := h.sz; omega⟩
theorem Bds.lst {l s p : Nat} {xs : List PyData} (h : Bds S q m l s p xs) : Bd S q m (l + 3) (s + 1) (p + 1) (.list xs) :=
  ⟨El.lst h.els, by rw [wl]; have := h.len; omega, by show 1 ≤ s + 1; omega⟩
theorem els_inv {p : Nat} : ∀ {xs : List PyData}, PyData.depthAll xs ≤ p → atBs S q m xs = true → ∀ y, y ∈ xs → El S q m p y
  | [], _, _, y, hy => (nomatch hy)
  | x :: xs, h1, h2, y, hy => by
    simp only [PyData.depthAll] at h1
    rw [atBs, Bool.and_eq_true] at h2
    rcases List.mem_cons.mp hy with rfl | hy
    · exact ⟨by omega, h2.1⟩
    · exact els_inv (by omega) h2.2 y hy
/-- what a tuple's items keep -/
theorem Bd.inv {l s p : Nat} {xs : List PyData} (h : Bd S q m l s (p + 1) (.tuple xs)) : Bds S q m (l - 3) (s - 1) p xs := by
  have h1 := h.dep
  have h2 := h.at'
  have h5 := h.len
  have h6 := h.sz
  simp only [PyData.depth] at h1
  rw [atB] at h2
  rw [wl] at h5
  rw [L10.sz] at h6
  exact ⟨els_inv (by omega) h2, by omega, by omega⟩
theorem Bd.len3 {l s p : Nat} {xs : List PyData} (h : Bd S q m l s p (.tuple xs)) : 3 ≤ l ∧ 1 ≤ s ∧ 1 ≤ p := by
  have h1 := h.dep
  have h5 := h.len
  have h6 := h.sz
  simp only [PyData.depth] at h1
  rw [wl] at h5
  rw [L10.sz] at h6
  omega
theorem Bds.two {l s p l' s' : Nat} {x : PyData} {xs : List PyData} (h : Bd S q m l s p x) (t : Bds S q m l' s' p xs) : Bds S q m (l + 2 + l') (s + s') p (x :: xs) := by
  refine ⟨fun y hy => ?_, ?_, ?_⟩
  · rcases List.mem_cons.mp hy with rfl | hy
    · exact h.toEl
    · exact t.els y hy
  · rw [wls]; have := h.len; have := t.len; omega
  · rw [szs]; have := h.sz; have := t.sz; omega
theorem Bds.nil {p : Nat} : Bds S q m 0 0 p [] := ⟨fun y hy => (nomatch hy), Nat.le_refl _, Nat.le_refl _⟩
theorem Bds.app {l s p l' s' : Nat} {xs ys : List PyData} (h : Bds S q m l s p xs) (t : Bds S q m l' s' p ys) : Bds S q m (l + l') (s + s') p (xs ++ ys) := by
  refine ⟨fun y hy => ?_, ?_, ?_⟩
  · rcases List.mem_append.mp hy with hy | hy
    · exact h.els y hy
    · exact t.els y hy
  · rw [wls_append]; have := h.len; have := t.len; omega
  · rw [szs_append]; have := h.sz; have := t.sz; omega
end
theorem cut_at {α : Type} {xs : List α} {i : Nat} {x : α} (h : xs[i]? = some x) : xs = xs.take i ++ x :: xs.drop (i + 1) := by
  have hi := (List.getElem?_eq_some_iff.mp h).1
  have e : xs[i] = x := (List.getElem?_eq_some_iff.mp h).2
  have := List.take_append_drop i xs
  rw [List.drop_eq_getElem_cons hi, e] at this
  exact this.symm
/-- what the items of one list give to another -/
theorem Bds.sub {S : List Str} {q m l s p : Nat} {A B xs : List PyData} (h : Bds S q m l s p xs) (e : xs = A ++ B) : Bds S q m l s p A ∧ Bds S q m l s p B ∧ wls A + wls B ≤ l ∧ szs A + szs B ≤ s := by
  subst e
  have h1 := h.len
  have h2 := h.sz
  rw [wls_append] at h1
  rw [szs_append] at h2
  exact ⟨⟨fun y hy => h.els y (List.mem_append_left _ hy), by omega, by omega⟩, ⟨fun y hy => h.els y (List.mem_append_right _ hy), by omega, by omega⟩, h1, h2⟩
/-- one item, and what lies around it -/
structure Around1 (S : List Str) (q m l s p : Nat) (A : List PyData) (x : PyData) (B : List PyData) : Prop where
  ela : ∀ y, y ∈ A → El S q m p y
  elx : El S q m p x
  elb : ∀ y, y ∈ B → El S q m p y
  len : wls A + (wl x + 2) + wls B ≤ l
  sz : szs A + sz x + szs B ≤ s
theorem Bds.around {S : List Str} {q m l s p i : Nat} {xs : List PyData} {x : PyData} (h : Bds S q m l s p xs) (hx : xs[i]? = some x) : Around1 S q m l s p (xs.take i) x (xs.drop (i + 1)) := by
  have e := cut_at hx
  have h1 := h.len
  have h2 := h.sz
  have h3 := h.els
  rw [e] at h1 h2
  rw [wls_append, wls] at h1
  rw [szs_append, szs] at h2
  exact ⟨fun y hy => h3 y (List.mem_of_mem_take hy), h3 x (List.mem_of_getElem? hx), fun y hy => h3 y (List.mem_of_mem_drop hy), by omega, by omega⟩
theorem mem3 {P : PyData → Prop} {A B : List PyData} (ha : ∀ y, y ∈ A → P y) (hb : ∀ y, y ∈ B → P y) : ∀ y, y ∈ A ++ B → P y := fun y hy => by
  rcases List.mem_append.mp hy with hy | hy
  · exact ha y hy
  · exact hb y hy
theorem mem1 {P : PyData → Prop} {x : PyData} (h : P x) : ∀ y, y ∈ [x] → P y := fun y hy => by
  rw [List.mem_singleton.mp hy]
  exact h
/-! what a bend makes of it -/
section
variable {S : List Str} {q m l s p : Nat} {A B : List PyData} {x : PyData}
theorem bend_out (h : Around1 S q m l s p A x B) : Bds S q m l s p (A ++ B) := by
  have h1 := h.len
  have h2 := h.sz
  exact ⟨mem3 h.ela h.elb, by rw [wls_append]; omega, by rw [szs_append]; omega⟩
theorem bend_twice (h : Around1 S q m l s p A x B) : Bds S q m (2 * l) (2 * s) p ((A ++ [x]) ++ (x :: B)) := by
  have h1 := h.len
  have h2 := h.sz
  refine ⟨mem3 (mem3 h.ela (mem1 h.elx)) (fun y hy => ?_), ?_, ?_⟩
  · rcases List.mem_cons.mp hy with rfl | hy
    · exact h.elx
    · exact h.elb y hy
  · rw [wls_append, wls_append, wls, wls, wls]; omega
  · rw [szs_append, szs_append, szs, szs, szs]; omega
theorem bend_put {y : PyData} {k n r : Nat} (h : Around1 S q m l s p A x B) (hy : Bd S q m (2 * wl x + k) (2 * L10.sz x + n) (p + r) y) : Bds S q m (2 * l + k) (2 * s + n) (p + r) ((A ++ [y]) ++ B) := by
  have h1 := h.len
  have h2 := h.sz
  have h3 := hy.len
  have h4 := hy.sz
  refine ⟨mem3 (mem3 (fun y hy => (h.ela y hy).mono (by omega)) (mem1 hy.toEl)) (fun y hy => (h.elb y hy).mono (by omega)), ?_, ?_⟩
  · rw [wls_append, wls_append, wls, wls]; omega
  · rw [szs_append, szs_append, szs, szs]; omega
end
/-- two items changed about -/
theorem bend_turn {S : List Str} {q m l s p i : Nat} {xs : List PyData} (h : Bds S q m l s p xs) : Bds S q m l s p ((xs.take i ++ ((xs.drop i).take 2).reverse) ++ xs.drop (i + 2)) := by
  have e1 : xs = xs.take i ++ ((xs.drop i).take 2 ++ xs.drop (i + 2)) := by
    rw [← List.drop_drop, List.take_append_drop, List.take_append_drop]
  have h1 := h.len
  have h2 := h.sz
  have h3 := h.els
  rw [e1] at h1 h2
  rw [wls_append, wls_append] at h1
  rw [szs_append, szs_append] at h2
  have r1 : ∀ zs : List PyData, wls zs.reverse = wls zs := fun zs => by
    induction zs with
    | nil => rfl
    | cons z zs ih => rw [List.reverse_cons, wls_append, ih, wls, wls, wls]; omega
  have r2 : ∀ zs : List PyData, szs zs.reverse = szs zs := fun zs => by
    induction zs with
    | nil => rfl
    | cons z zs ih => rw [List.reverse_cons, szs_append, ih, szs, szs, szs]; omega
  refine ⟨mem3 (mem3 (fun y hy => h3 y (List.mem_of_mem_take hy)) (fun y hy => ?_)) (fun y hy => h3 y (List.mem_of_mem_drop hy)), ?_, ?_⟩
  · exact h3 y (List.mem_of_mem_drop (List.mem_of_mem_take (List.mem_reverse.mp hy)))
  · rw [wls_append, wls_append, r1]; omega
  · rw [szs_append, szs_append, r2]; omega

theorem char1C : ∀ c, c < 127 → okC c = true → (Builtin.Str.reprChar 39 c).length = 1 := by decide +kernel
theorem fold_lenC : ∀ (l : List Nat) (acc : Array Nat), (∀ c, c ∈ l → okC c = true) → (l.foldl (fun out c => out ++ (Builtin.Str.reprChar 39 c).toArray) acc).size = acc.size + l.length
  | [], acc, _ => rfl
  | c :: l, acc, h => by
    have hc := h c List.mem_cons_self
    have h1 := char1C c (okC_iff.mp hc).1.2 hc
    have h2 : (Builtin.Str.reprChar 39 c).toArray.size = 1 := by rw [List.size_toArray]; exact h1
    rw [List.foldl_cons, fold_lenC l _ fun d hd => h d (List.mem_cons_of_mem _ hd), Array.size_append, h2, List.length_cons]
    omega
/-- a plain text shows as itself within quotes -/
theorem wl_ok {z : Str} (h : z.cps.toList.all okC = true) : wl (.str z) = z.length + 2 := by
  have h3 := List.all_eq_true.mp h
  have hq : PySem.reprQuote z = 39 := by
    unfold PySem.reprQuote
    rw [if_neg]
    intro e
    rw [Bool.and_eq_true] at e
    have := e.1
    rw [Array.contains_iff_mem] at this
    exact (okC_iff.mp (h3 39 (Array.mem_toList_iff.mpr this))).2.1 rfl
  rw [wl, PyData.shown_str]
  unfold PySem.reprText
  rw [hq]
  show ((z.cps.foldl (fun out c => out ++ (Builtin.Str.reprChar 39 c).toArray) #[39]).push 39).size = z.length + 2
  rw [Array.size_push, ← Array.foldl_toList, fold_lenC _ _ h3, Array.length_toList]
  show 1 + z.cps.size + 1 = z.cps.size + 2
  omega
section
variable {S : List Str} {q m : Nat}
theorem bd_str {z : Str} (hz : z ∈ S) (hl : z.length ≤ q) (hc : z.cps.toList.all okC = true) : Bd S q m (z.length + 2) 1 0 (.str z) :=
  ⟨⟨by simp only [PyData.depth]; omega, by rw [atB, hc, decide_eq_true hz, decide_eq_true hl]; rfl⟩, Nat.le_of_eq (wl_ok hc), Nat.le_refl _⟩
theorem bd_int {i : Int} (h : i.natAbs ≤ m) (hm : m ≤ 10 ^ 41) : Bd S q m 43 1 0 (.int i) := by
  have e := int_text_length_le10 (k := 42) (by decide) (show i.natAbs < 10 ^ 42 from Nat.lt_of_le_of_lt (Nat.le_trans h hm) (by decide))
  refine ⟨⟨by simp only [PyData.depth]; omega, by rw [atB]; exact decide_eq_true h⟩, ?_, Nat.le_refl _⟩
  rw [wl, PyData.shown_int, PySem.ofString_length]
  exact e
theorem bd_bool (b : Bool) : Bd S q m 5 1 0 (.bool b) := ⟨⟨by simp only [PyData.depth]; omega, by cases b <;> (rw [atB] <;> simp)⟩, by rw [wl, PyData.shown_bool]; cases b <;> decide, Nat.le_refl _⟩
theorem bd_none : Bd S q m 5 1 0 .none := ⟨⟨by simp only [PyData.depth]; omega, by rw [atB] <;> simp⟩, by rw [wl, PyData.shown_none]; decide, Nat.le_refl _⟩
end
end L10

namespace L10
open PySem PySem.Spec PyProof.Rows L2 GR AD RZ WX ZE TX RVT
/-! ### what the generator makes is what it should be -/
theorem isX_all : ∀ (n : Nat) (d : PyData), sz d ≤ n → isX d = allX hasForm d
  | 0, d, h => by have := sz_pos d; omega
  | n + 1, d, h => by
    rw [isX_step, allX_step]
    congr 1
    have hk := kidsE_sz d
    rw [Bool.eq_iff_iff, List.all_eq_true, List.all_eq_true]
    have key : ∀ y, y ∈ kidsE d → isX y = allX hasForm y := fun y hy => isX_all n y (by have := sz_mem hy; omega)
    exact ⟨fun g y hy => by rw [← key y hy]; exact g y hy, fun g y hy => by rw [key y hy]; exact g y hy⟩
theorem isN_nm {z : Str} (h : Nm z) : isN (.str z) = true := by
  obtain ⟨h1, h2, h3, h4⟩ := h
  rw [Array.length_toList] at h1 h2
  have e1 : decide (1 ≤ z.length) = true := decide_eq_true h1
  have e2 : decide (z.length ≤ 8) = true := decide_eq_true h2
  have e3 : decide (z ∈ BARW) = false := decide_eq_false h4
  have e4 : z.cps.toList.all lowC = true := List.all_eq_true.mpr fun c hc => by
    have := h3 c hc
    unfold lowC
    rw [decide_eq_true this.1, decide_eq_true this.2]
    rfl
  show ((decide (1 ≤ z.length) && decide (z.length ≤ 8)) && (!decide (z ∈ BARW) && z.cps.toList.all lowC)) = true
  rw [e1, e2, e3, e4]
  rfl
theorem isV_ok {i : Int} (h1 : -(10 ^ 18) ≤ i) (h2 : i ≤ 10 ^ 18) : isV (.int i) = true := by
  show (decide (-LIM ≤ i) && decide (i ≤ LIM)) = true
  rw [decide_eq_true (by show -(1000000000000000000 : Int) ≤ i; omega), decide_eq_true (by show i ≤ (1000000000000000000 : Int); omega)]
  rfl
theorem kidsE_some {w : Str} {fs : List Str} {r : List PyData} (h : look w = some fs) : kidsE (.tuple (.str w :: r)) = pick W2 fs r := by
  show (match look w with | some fs => pick W2 fs r | none => []) = _
  rw [h]
theorem kidsF_some {w : Str} {fs : List Str} {r : List PyData} (h : look w = some fs) : kidsF (.tuple (.str w :: r)) = pick W1 fs r := by
  show (match look w with | some fs => pick W1 fs r | none => []) = _
  rw [h]
/-- what the names are -/
structure Nz (S zs sc : List Str) : Prop where
  nm : ∀ z, z ∈ zs → z ≠ "#" → Nm z ∧ z ∈ S
  sc : ∀ z, z ∈ sc → Nm z ∧ z ∈ S
  inn : ("in" : Str) ∈ zs
  plus : ("+" : Str) ∉ zs
theorem ops_free {o : Str} (h : o ∈ ops5) : look o = some (["free", "free"] : List Str) ∧ o ≠ "let" ∧ o ∉ aggW ∧ o ≠ "var" ∧ o ≠ "key" := by
  simp only [ops5, List.mem_cons, List.not_mem_nil, or_false] at h
  rcases h with rfl | rfl | rfl | rfl | rfl <;> decide
/-- an aggregate's kinds -/
theorem agg_look {o : Str} {a b : Nat} (h : (o, a, b) ∈ aggk) : look o = some ((["name", "extra", "bound", "bound"] : List Str) ++ ((List.replicate a "bound" : List Str) ++ (List.replicate b "free" : List Str))) ∧ o ≠ "let" ∧ o ∈ aggW ∧ o ≠ "var" ∧ o ≠ "key" := by
  simp only [aggk, List.mem_cons, List.not_mem_nil, or_false, Prod.mk.injEq] at h
  rcases h with ⟨rfl, rfl, rfl⟩ | ⟨rfl, rfl, rfl⟩ | ⟨rfl, rfl, rfl⟩ | ⟨rfl, rfl, rfl⟩ <;> decide
theorem pick_app (W : List Str) : ∀ {fs : List Str} {ds : List PyData} {gs : List Str} {es : List PyData}, fs.length = ds.length → pick W (fs ++ gs) (ds ++ es) = pick W fs ds ++ pick W gs es
  | [], [], gs, es, _ => by simp only [List.nil_append, pick]
  | f :: fs, d :: ds, gs, es, h => by
    have ih := pick_app W (fs := fs) (ds := ds) (gs := gs) (es := es) (by simpa using h)
    rw [List.cons_append, List.cons_append, pick, pick, ih, List.append_assoc]
theorem pick_rep {W : List Str} {f : Str} (hf : f ≠ "extra") : ∀ (n : Nat) (ds : List PyData), ds.length = n → pick W (List.replicate n f) ds = if f ∈ W then ds else []
  | 0, [], _ => by simp [pick]
  | n + 1, d :: ds, h => by
    have ih := pick_rep (W := W) hf n ds (by simpa using h)
    rw [List.replicate_succ, pick, ih, if_neg hf]
    split <;> rfl
theorem fits_rep : ∀ (n : Nat) (ds : List PyData) (f : Str), (f = "free" ∨ f = "bound") → ds.length = n → ∀ {gs : List Str} {es : List PyData}, fitsAll (List.replicate n f ++ gs) (ds ++ es) = fitsAll gs es
  | 0, [], _, _, _, _, _ => rfl
  | n + 1, d :: ds, f, hf, h, gs, es => by
    have ih := fits_rep n ds f hf (by simpa using h) (gs := gs) (es := es)
    have h1 : fitsD f d = true := by rcases hf with rfl | rfl <;> rfl
    show (fitsD f d && fitsAll (List.replicate n f ++ gs) (ds ++ es)) = _
    rw [h1, ih]
    rfl
section
variable {S zs sc : List Str}
/-- an expression by its form, somewhere within -/
def CxE (zs sc : List Str) (y : PyData) : Prop := ∃ b n, Cx zs sc b n y
theorem row_cx (h : Nz S zs sc) {t : Str} (ht : t ∈ zs ∧ t ≠ "#") : Cx zs sc true 2 (rowX t) := .cell true 1 t "in" _ ht ⟨h.inn, by decide⟩ (.key 0)
theorem Cx.kids (h : Nz S zs sc) {b : Bool} {n : Nat} {x : PyData} (hx : Cx zs sc b n x) : ∀ y, y ∈ kidsE x → CxE zs sc y := by
  cases hx with
  | int _ n i h1 h2 => rw [kidsE_some (show look "int" = some (["value"] : List Str) by decide)]; intro y hy; exact (nomatch hy)
  | let_ _ n i g9 => exact absurd g9 h.plus
  | key n => rw [kidsE_some (show look "key" = some ([] : List Str) by decide)]; intro y hy; exact (nomatch hy)
  | var _ n z h1 => rw [kidsE_some (show look "var" = some (["name"] : List Str) by decide)]; intro y hy; exact (nomatch hy)
  | cell _ n t v x h1 h2 hx =>
    rw [kidsE_some (show look "cell" = some (["name", "free", "name"] : List Str) by decide)]
    intro y hy
    rw [show pick W2 (["name", "free", "name"] : List Str) [.str t, x, .str v] = [x] from rfl] at hy
    have : y = x := List.mem_singleton.mp hy
    exact this ▸ ⟨_, _, hx⟩
  | op _ n o x y h1 hx hy =>
    rw [kidsE_some (ops_free h1).1]
    intro u hu
    rw [show pick W2 (["free", "free"] : List Str) [x, y] = [x, y] from rfl] at hu
    have : u = x ∨ u = y := by simpa using hu
    rcases this with rfl | rfl
    · exact ⟨_, _, hx⟩
    · exact ⟨_, _, hy⟩
  | at_ _ n x y hx hy =>
    rw [kidsE_some (show look "at" = some (["free", "bound"] : List Str) by decide)]
    intro u hu
    rw [show pick W2 (["free", "bound"] : List Str) [x, y] = [x, y] from rfl] at hu
    have : u = x ∨ u = y := by simpa using hu
    rcases this with rfl | rfl
    · exact ⟨_, _, hx⟩
    · exact ⟨_, _, hy⟩
  | iff _ n x y z hx hy hz =>
    rw [kidsE_some (show look "if" = some (["free", "free", "free"] : List Str) by decide)]
    intro u hu
    rw [show pick W2 (["free", "free", "free"] : List Str) [x, y, z] = [x, y, z] from rfl] at hu
    have : u = x ∨ u = y ∨ u = z := by simpa using hu
    rcases this with rfl | rfl | rfl
    · exact ⟨_, _, hx⟩
    · exact ⟨_, _, hy⟩
    · exact ⟨_, _, hz⟩
  | agg _ n o t p xs vs ds hh h0 h1 h2 h3 h4 h5 h6 h7 =>
    obtain rfl : xs = [] := List.length_eq_zero_iff.mp (Nat.le_zero.mp h3)
    rw [kidsE_some (agg_look h1).1]
    intro u hu
    have e : pick W2 ((["name", "extra", "bound", "bound"] : List Str) ++ ((List.replicate vs.length "bound" : List Str) ++ (List.replicate ds.length "free" : List Str))) ((.str t : PyData) :: .tuple [] :: rowX t :: p :: (vs ++ ds)) = [rowX t, p] ++ (vs ++ ds) := by
      rw [show ((.str t : PyData) :: .tuple [] :: rowX t :: p :: (vs ++ ds)) = [.str t, .tuple [], rowX t, p] ++ (vs ++ ds) from rfl, pick_app W2 rfl, pick_app W2 (by rw [List.length_replicate]), pick_rep (by decide) _ _ rfl, pick_rep (by decide) _ _ rfl, if_pos (by decide), if_pos (by decide)]
      rfl
    rw [e] at hu
    rcases List.mem_append.mp hu with hu | hu
    · simp only [List.mem_cons, List.not_mem_nil, or_false] at hu
      rcases hu with rfl | rfl
      · exact ⟨_, _, row_cx h h2⟩
      · exact ⟨_, _, h5⟩
    · rcases List.mem_append.mp hu with hu | hu
      · exact ⟨_, _, h6 u hu⟩
      · exact ⟨_, _, h7 u hu⟩
theorem CxE.all (h : Nz S zs sc) {q : PyData → Bool} (hq : ∀ y, CxE zs sc y → q y = true) {x : PyData} (hx : CxE zs sc x) : allX q x = true :=
  allX_of (P := CxE zs sc) (fun y hy => ⟨hq y hy, hy.choose_spec.choose_spec.kids h⟩) (L10.sz x) x (Nat.le_refl _) hx
theorem CxE.form (h : Nz S zs sc) {x : PyData} (hx : CxE zs sc x) : hasForm x = true := by
  obtain ⟨b, n, hx⟩ := hx
  cases hx with
  | int _ n i h1 h2 =>
    rw [form_some (show look "int" = some (["value"] : List Str) by decide)]
    show (isV (.int i) && true) = true
    rw [isV_ok h1 h2]
    rfl
  | let_ _ n i g9 => exact absurd g9 h.plus
  | key n => rw [form_some (show look "key" = some ([] : List Str) by decide)]; rfl
  | var _ n z h1 =>
    rw [form_some (show look "var" = some (["name"] : List Str) by decide)]
    show (isN (.str z) && true) = true
    rw [isN_nm (h.sc z h1).1]
    rfl
  | cell _ n t v x h1 h2 hx =>
    rw [form_some (show look "cell" = some (["name", "free", "name"] : List Str) by decide)]
    show (isN (.str t) && (true && (isN (.str v) && true))) = true
    rw [isN_nm (h.nm t h1.1 h1.2).1, isN_nm (h.nm v h2.1 h2.2).1]
    rfl
  | op _ n o x y h1 hx hy => rw [form_some (ops_free h1).1]; rfl
  | at_ _ n x y hx hy => rw [form_some (show look "at" = some (["free", "bound"] : List Str) by decide)]; rfl
  | iff _ n x y z hx hy hz => rw [form_some (show look "if" = some (["free", "free", "free"] : List Str) by decide)]; rfl
  | agg _ n o t p xs vs ds hh h0 h1 h2 h3 h4 h5 h6 h7 =>
    rw [form_some (agg_look h1).1]
    show (isN (.str t) && (true && (true && (true && fitsAll ((List.replicate vs.length "bound" : List Str) ++ (List.replicate ds.length "free" : List Str)) (vs ++ ds))))) = true
    rw [isN_nm (h.nm t h2.1 h2.2).1, fits_rep _ vs _ (.inr rfl) rfl]
    have := fits_rep ds.length ds "free" (.inl rfl) rfl (gs := []) (es := [])
    rw [List.append_nil, List.append_nil] at this
    rw [this]
    rfl
theorem CxE.isx (h : Nz S zs sc) {x : PyData} (hx : CxE zs sc x) : isX x = true := by
  rw [isX_all _ x (Nat.le_refl _)]
  exact CxE.all h (fun y hy => hy.form h) hx
theorem eqv_row (t : Str) : PyData.eqv (rowX t) (rowX t) = true := by
  unfold rowX
  simp only [PyData.eqv, PyData.eqvAll, beq_self_eq_true, Bool.and_self]
theorem CxE.plain (h : Nz S zs sc) {x : PyData} (hx : CxE zs sc x) : allX plainP x = true := by
  refine CxE.all h (fun y hy => ?_) hx
  obtain ⟨b, n, hy⟩ := hy
  have no : ∀ {w : Str} {r : List PyData}, w ∉ aggW → w ≠ "let" → plainP (.tuple (.str w :: r)) = true := fun h1 h2 => by
    rw [plain_no h1, decide_eq_false h2]
    rfl
  cases hy with
  | int _ n i h1 h2 => exact no (by decide) (by decide)
  | let_ _ n i g9 => exact absurd g9 h.plus
  | key n => exact no (by decide) (by decide)
  | var _ n z h1 => exact no (by decide) (by decide)
  | cell _ n t v x h1 h2 hx => exact no (by decide) (by decide)
  | op _ n o x y h1 hx hy => exact no (ops_free h1).2.2.1 (ops_free h1).2.1
  | at_ _ n x y hx hy => exact no (by decide) (by decide)
  | iff _ n x y z hx hy hz => exact no (by decide) (by decide)
  | agg _ n o t p xs vs ds hh h0 h1 h2 h3 h4 h5 h6 h7 =>
    obtain rfl : xs = [] := List.length_eq_zero_iff.mp (Nat.le_zero.mp h3)
    rw [plain_agg (agg_look h1).2.2.1, eqv_row]
    rfl
theorem CxE.simple (h : Nz S zs sc) (hh : ("#" : Str) ∉ zs) {x : PyData} (hx : CxE zs sc x) : allX simpleP x = true := by
  refine CxE.all h (fun y hy => ?_) hx
  obtain ⟨b, n, hy⟩ := hy
  have no : ∀ {w : Str} {r : List PyData}, w ∉ aggW → simpleP (.tuple (.str w :: r)) = true := fun {w r} h1 => by
    show (!decide (w ∈ aggW)) = true
    rw [decide_eq_false h1]
    rfl
  cases hy with
  | int _ n i h1 h2 => exact no (by decide)
  | let_ _ n i g9 => exact absurd g9 h.plus
  | key n => exact no (by decide)
  | var _ n z h1 => exact no (by decide)
  | cell _ n t v x h1 h2 hx => exact no (by decide)
  | op _ n o x y h1 hx hy => exact no (ops_free h1).2.2.1
  | at_ _ n x y hx hy => exact no (by decide)
  | iff _ n x y z hx hy hz => exact no (by decide)
  | agg _ n o t p xs vs ds g _ _ _ _ _ _ _ _ => exact absurd g hh
theorem CxE.vars (h : Nz S zs sc) {x : PyData} (hx : CxE zs sc x) : allX (varQ fun z => decide (z ∈ sc)) x = true := by
  refine CxE.all h (fun y hy => ?_) hx
  obtain ⟨b, n, hy⟩ := hy
  have no : ∀ {w : Str} {r : List PyData}, w ≠ "var" → varQ (fun z => decide (z ∈ sc)) (.tuple (.str w :: r)) = true := fun {w r} h1 => by
    unfold varQ
    rw [varName_no h1]
  cases hy with
  | int _ n i h1 h2 => exact no (by decide)
  | let_ _ n i g9 => exact absurd g9 h.plus
  | key n => exact no (by decide)
  | var _ n z h1 => exact decide_eq_true h1
  | cell _ n t v x h1 h2 hx => exact no (by decide)
  | op _ n o x y h1 hx hy => exact no (ops_free h1).2.2.2.1
  | at_ _ n x y hx hy => exact no (by decide)
  | iff _ n x y z hx hy hz => exact no (by decide)
  | agg _ n o t p xs vs ds _ _ h1 _ _ _ _ _ _ => exact no (agg_look h1).2.2.2.1
/-- no key stands free where none may -/
theorem Cx.kidsF (h : Nz S zs sc) {n : Nat} {x : PyData} (hx : Cx zs sc false n x) : ∀ y, y ∈ kidsF x → ∃ m, Cx zs sc false m y := by
  cases hx with
  | int _ n i h1 h2 => rw [kidsF_some (show look "int" = some (["value"] : List Str) by decide)]; intro y hy; exact (nomatch hy)
  | let_ _ n i g9 => exact absurd g9 h.plus
  | var _ n z h1 => rw [kidsF_some (show look "var" = some (["name"] : List Str) by decide)]; intro y hy; exact (nomatch hy)
  | cell _ n t v x h1 h2 hx =>
    rw [kidsF_some (show look "cell" = some (["name", "free", "name"] : List Str) by decide)]
    intro y hy
    rw [show pick W1 (["name", "free", "name"] : List Str) [.str t, x, .str v] = [x] from rfl] at hy
    have : y = x := List.mem_singleton.mp hy
    exact this ▸ ⟨_, hx⟩
  | op _ n o x y h1 hx hy =>
    rw [kidsF_some (ops_free h1).1]
    intro u hu
    rw [show pick W1 (["free", "free"] : List Str) [x, y] = [x, y] from rfl] at hu
    have : u = x ∨ u = y := by simpa using hu
    rcases this with rfl | rfl
    · exact ⟨_, hx⟩
    · exact ⟨_, hy⟩
  | at_ _ n x y hx hy =>
    rw [kidsF_some (show look "at" = some (["free", "bound"] : List Str) by decide)]
    intro u hu
    rw [show pick W1 (["free", "bound"] : List Str) [x, y] = [x] from rfl] at hu
    have : u = x := List.mem_singleton.mp hu
    exact this ▸ ⟨_, hx⟩
  | iff _ n x y z hx hy hz =>
    rw [kidsF_some (show look "if" = some (["free", "free", "free"] : List Str) by decide)]
    intro u hu
    rw [show pick W1 (["free", "free", "free"] : List Str) [x, y, z] = [x, y, z] from rfl] at hu
    have : u = x ∨ u = y ∨ u = z := by simpa using hu
    rcases this with rfl | rfl | rfl
    · exact ⟨_, hx⟩
    · exact ⟨_, hy⟩
    · exact ⟨_, hz⟩
  | agg _ n o t p xs vs ds hh h0 h1 h2 h3 h4 h5 h6 h7 =>
    obtain rfl : xs = [] := List.length_eq_zero_iff.mp (Nat.le_zero.mp h3)
    rw [kidsF_some (agg_look h1).1]
    intro u hu
    have e : pick W1 ((["name", "extra", "bound", "bound"] : List Str) ++ ((List.replicate vs.length "bound" : List Str) ++ (List.replicate ds.length "free" : List Str))) ((.str t : PyData) :: .tuple [] :: rowX t :: p :: (vs ++ ds)) = ds := by
      rw [show ((.str t : PyData) :: .tuple [] :: rowX t :: p :: (vs ++ ds)) = [.str t, .tuple [], rowX t, p] ++ (vs ++ ds) from rfl, pick_app W1 rfl, pick_app W1 (by rw [List.length_replicate]), pick_rep (by decide) _ _ rfl, pick_rep (by decide) _ _ rfl, if_neg (by decide), if_pos (by decide)]
      rfl
    rw [e] at hu
    exact ⟨_, h7 u hu⟩
theorem Cx.noKey (h : Nz S zs sc) : ∀ (k : Nat) {n : Nat} {x : PyData}, sz x ≤ k → Cx zs sc false n x → keyX x = false
  | 0, _, x, hk, _ => by have := sz_pos x; omega
  | k + 1, n, x, hk, hx => by
    have hs := L10.kidsF_sz x
    have h2 : (L10.kidsF x).any keyX = false := by
      rw [List.any_eq_false]
      intro y hy
      obtain ⟨m, hm⟩ := hx.kidsF h y hy
      have := sz_mem hy
      rw [Cx.noKey h k (by omega) hm]
      exact Bool.false_ne_true
    rw [keyX_step, h2, Bool.or_false]
    have no : ∀ {w : Str} {r : List PyData}, w ≠ "key" → isKey (.tuple (.str w :: r)) = false := fun h1 => decide_eq_false h1
    cases hx with
    | int _ n i h1 h2 => exact no (by decide)
    | let_ _ n i g9 => exact absurd g9 h.plus
    | var _ n z h1 => exact no (by decide)
    | cell _ n t v x h1 h2 hx => exact no (by decide)
    | op _ n o x y h1 hx hy => exact no (ops_free h1).2.2.2.2
    | at_ _ n x y hx hy => exact no (by decide)
    | iff _ n x y z hx hy hz => exact no (by decide)
    | agg _ n o t p xs vs ds _ _ h1 _ _ _ _ _ _ => exact no (agg_look h1).2.2.2.2
end
end L10

namespace L10
open PySem PySem.Spec PyProof.Rows L2 GR AD RZ WX ZE TX RVT
abbrev baseS : List Str := ["int", "let", "key", "var", "cell", "if", "+", "-", "*", "<", "=", "at", "count", "sum", "most", "first", "in", "need", "put", "each", "tell", "", "a", "None"]
theorem base_ok : ∀ w, w ∈ baseS → w.length ≤ 5 ∧ w.cps.toList.all okC = true := by decide +kernel
structure Bs (S : List Str) (q m : Nat) : Prop where
  base : ∀ w, w ∈ baseS → w ∈ S
  q8 : 8 ≤ q
  m1 : 10 ^ 18 ≤ m
  m2 : m ≤ 10 ^ 41
theorem nm_okC {z : Str} (h : Nm z) : z.cps.toList.all okC = true := List.all_eq_true.mpr fun c hc => okC_iff.mpr (by have := h.2.2.1 c hc; unfold Low at this; omega)
section
variable {S : List Str} {q m : Nat}
theorem Bd.two {l s p l' s' : Nat} {x : PyData} {xs : List PyData} (h : Bd S q m l s p x) (t : Bds S q m l' s' p xs) : Bds S q m (l + 2 + l') (s + s') p (x :: xs) := Bds.two h t
theorem Bs.w (h : Bs S q m) {w : Str} (hw : w ∈ baseS) (p : Nat) : Bd S q m 7 1 p (.str w) := by
  obtain ⟨h1, h2⟩ := base_ok w hw
  have := h.q8
  exact (bd_str (h.base w hw) (by omega) h2).mono (by omega) (Nat.le_refl _) (Nat.zero_le p)
theorem Bs.n (h : Bs S q m) {z : Str} (hz : Nm z ∧ z ∈ S) (p : Nat) : Bd S q m 10 1 p (.str z) := by
  have h1 := hz.1.2.1
  rw [Array.length_toList] at h1
  have h2 : z.length ≤ 8 := h1
  have := h.q8
  exact (bd_str hz.2 (by omega) (nm_okC hz.1)).mono (by omega) (Nat.le_refl _) (Nat.zero_le p)
theorem Bs.i (h : Bs S q m) {i : Int} (h1 : -(10 ^ 18) ≤ i) (h2 : i ≤ 10 ^ 18) (p : Nat) : Bd S q m 43 1 p (.int i) :=
  (bd_int (Nat.le_trans (show i.natAbs ≤ 10 ^ 18 by omega) h.m1) h.m2).mono (Nat.le_refl _) (Nat.le_refl _) (Nat.zero_le p)
def tX : Nat → Nat
  | 0 => 0
  | n + 1 => 3 * tX n + 200
def sX : Nat → Nat
  | 0 => 0
  | n + 1 => 3 * sX n + 20
theorem Cx.bd {zs sc : List Str} (h : Bs S q m) (g : Nz S zs sc) {b : Bool} {n : Nat} {x : PyData} (hx : Cx zs sc b n x) : Bd S q m (tX n) (sX n) (2 * n) x := by
  induction hx with
  | int _ n i h1 h2 =>
    have ht : tX (n + 1) = 3 * tX n + 200 := rfl
    have hs : sX (n + 1) = 3 * sX n + 20 := rfl
    exact (((h.w (w := "int") (by decide) (2 * n)).two ((h.i h1 h2 _).two .nil)).tup).mono (by omega) (by omega) (by omega)
  | let_ _ n i g9 _ _ => exact absurd g9 g.plus
  | key n =>
    have ht : tX (n + 1) = 3 * tX n + 200 := rfl
    have hs : sX (n + 1) = 3 * sX n + 20 := rfl
    exact (((h.w (w := "key") (by decide) (2 * n)).two .nil).tup).mono (by omega) (by omega) (by omega)
  | var _ n z h1 =>
    have ht : tX (n + 1) = 3 * tX n + 200 := rfl
    have hs : sX (n + 1) = 3 * sX n + 20 := rfl
    exact (((h.w (w := "var") (by decide) (2 * n)).two ((h.n (g.sc z h1) _).two .nil)).tup).mono (by omega) (by omega) (by omega)
  | cell _ n t v x h1 h2 _ ih =>
    have ht : tX (n + 1) = 3 * tX n + 200 := rfl
    have hs : sX (n + 1) = 3 * sX n + 20 := rfl
    exact (((h.w (w := "cell") (by decide) _).two ((h.n (g.nm t h1.1 h1.2) _).two (ih.two ((h.n (g.nm v h2.1 h2.2) _).two .nil)))).tup).mono (by omega) (by omega) (by omega)
  | op _ n o x y h1 _ _ ih1 ih2 =>
    have ht : tX (n + 1) = 3 * tX n + 200 := rfl
    have hs : sX (n + 1) = 3 * sX n + 20 := rfl
    have hb : o ∈ baseS := by
      simp only [ops5, List.mem_cons, List.not_mem_nil, or_false] at h1
      rcases h1 with rfl | rfl | rfl | rfl | rfl <;> decide
    exact (((h.w hb _).two (ih1.two (ih2.two .nil))).tup).mono (by omega) (by omega) (by omega)
  | at_ _ n x y _ _ ih1 ih2 =>
    have ht : tX (n + 1) = 3 * tX n + 200 := rfl
    have hs : sX (n + 1) = 3 * sX n + 20 := rfl
    exact (((h.w (w := "at") (by decide) _).two (ih1.two (ih2.two .nil))).tup).mono (by omega) (by omega) (by omega)
  | iff _ n x y z _ _ _ ih1 ih2 ih3 =>
    have ht : tX (n + 1) = 3 * tX n + 200 := rfl
    have hs : sX (n + 1) = 3 * sX n + 20 := rfl
    exact (((h.w (w := "if") (by decide) _).two (ih1.two (ih2.two (ih3.two .nil)))).tup).mono (by omega) (by omega) (by omega)
  | agg _ n o t p xs vs ds hh h0 h1 h2 h3 h4 h5 h6 h7 _ ih2 ih3 ih4 =>
    obtain rfl : xs = [] := List.length_eq_zero_iff.mp (Nat.le_zero.mp h3)
    have ht : tX (n + 1) = 3 * tX n + 200 := rfl
    have hs : sX (n + 1) = 3 * sX n + 20 := rfl
    have hb : o ∈ baseS := by
      simp only [aggk, List.mem_cons, List.not_mem_nil, or_false, Prod.mk.injEq] at h1
      rcases h1 with ⟨rfl, _⟩ | ⟨rfl, _⟩ | ⟨rfl, _⟩ | ⟨rfl, _⟩ <;> decide
    have h11 : vs.length + ds.length ≤ 2 := by
      simp only [aggk, List.mem_cons, List.not_mem_nil, or_false, Prod.mk.injEq] at h1
      omega
    have few : ∀ l : List PyData, (∀ x, x ∈ l → Bd S q m (tX n) (sX n) (2 * n) x) → Bds S q m (l.length * (tX n + 2)) (l.length * sX n) (2 * n) l := fun l => by
      induction l with
      | nil => intro _; rw [List.length_nil, Nat.zero_mul, Nat.zero_mul]; exact .nil
      | cons a l ih =>
        intro hl
        have := (hl a List.mem_cons_self).two (ih fun x hx => hl x (List.mem_cons_of_mem _ hx))
        rw [List.length_cons, Nat.add_mul, Nat.add_mul, Nat.one_mul, Nat.one_mul]
        exact this.mono (by omega) (by omega) (Nat.le_refl _)
    have nt := h.n (g.nm t h2.1 h2.2)
    have key2 : Bd S q m 12 2 1 (.tuple [.str "key"]) := (((h.w (w := "key") (by decide) 0).two .nil).tup).mono (by omega) (by omega) (Nat.le_refl _)
    have row : Bd S q m 60 8 2 (rowX t) := (((h.w (w := "cell") (by decide) 1).two ((nt _).two (key2.two ((h.w (w := "in") (by decide) _).two .nil)))).tup).mono (by omega) (by omega) (Nat.le_refl _)
    have ex : Bd S q m 3 1 1 (.tuple []) := (Bds.nil (S := S) (q := q) (m := m) (p := 0)).tup
    have fv := few vs ih3
    have fd := few ds ih4
    have hm1 : (vs.length + ds.length) * (tX n + 2) ≤ 2 * (tX n + 2) := Nat.mul_le_mul_right _ h11
    have hm2 : (vs.length + ds.length) * sX n ≤ 2 * sX n := Nat.mul_le_mul_right _ h11
    rw [Nat.add_mul] at hm1 hm2
    exact (((h.w hb (2 * n)).two ((nt _).two ((ex.mono (Nat.le_refl _) (Nat.le_refl _) (by omega)).two ((row.mono (Nat.le_refl _) (Nat.le_refl _) (by omega)).two (ih2.two (fv.app fd)))))).tup).mono (by omega) (by omega) (by omega)
theorem tX5 : tX 5 = 24200 := by decide
theorem sX5 : sX 5 = 2420 := by decide
/-- a statement of the generator -/
structure Wz (S ts cs : List Str) : Prop where
  t : ∀ z, z ∈ ts → Nm z ∧ z ∈ S
  c : ∀ z, z ∈ cs → Nm z ∧ z ∈ S
  i : ("in" : Str) ∈ S
theorem nm_plus {z : Str} (h : Nm z) : z ≠ "+" := fun e => by
  have := (h.2.2.1 43 (by rw [e]; decide)).1
  omega
theorem Wz.nz {ts cs sc : List Str} (h : Wz S ts cs) (hs : ∀ z, z ∈ sc → Nm z ∧ z ∈ S) (l : Int) : Nz S (nmx l ts cs) sc := by
  have key : ∀ z, z ∈ nmx l ts cs → z = "#" ∨ (Nm z ∧ z ∈ S) := fun z hz => by
    rcases List.mem_cons.mp hz with rfl | hz
    · exact .inr ⟨in_nm, h.i⟩
    rcases List.mem_append.mp hz with hz | hz
    · exact .inr (h.t z hz)
    rcases List.mem_append.mp hz with hz | hz
    · exact .inr (h.c z hz)
    · unfold mark at hz
      split at hz
      · exact .inl (List.mem_singleton.mp hz)
      · exact (nomatch hz)
  refine ⟨fun z hz hn => (key z hz).resolve_left hn, hs, List.mem_cons_self, fun hp => ?_⟩
  rcases key _ hp with e | e
  · exact absurd e (by decide)
  · exact nm_plus e.1 rfl
theorem no_hash {ts cs : List Str} (h : Wz S ts cs) : ("#" : Str) ∉ nmx 2 ts cs := fun hz => by
  rcases List.mem_cons.mp hz with e | hz
  · exact absurd e (by decide)
  rcases List.mem_append.mp hz with hz | hz
  · exact nm_hash (h.t _ hz).1 rfl
  rcases List.mem_append.mp hz with hz | hz
  · exact nm_hash (h.c _ hz).1 rfl
  · have : mark 2 = [] := by decide
    rw [this] at hz
    exact (nomatch hz)
theorem StX.ok {ts cs sc : List Str} {x : PyData} (w : Wz S ts cs) (hs : ∀ z, z ∈ sc → Nm z ∧ z ∈ S) (hx : StX ts cs sc x) : isSt x = true ∧ mayF x sc = true := by
  have key : ∀ {y : PyData} {n : Nat}, Cx (nmx 0 ts cs) sc false n y → fitsS "keyless" y = true ∧ allX (varQ fun z => decide (z ∈ sc)) y = true := fun {y n} hy => by
    have g := w.nz hs 0
    have e : CxE (nmx 0 ts cs) sc y := ⟨_, _, hy⟩
    refine ⟨?_, CxE.vars g e⟩
    unfold fitsS
    rw [if_neg (by decide), if_neg (by decide), CxE.isx g e, CxE.plain g e, Cx.noKey g _ (Nat.le_refl _) hy]
    rfl
  have row : ∀ {y : PyData} {n : Nat}, Cx (nmx 2 ts cs) sc true n y → fitsS "row" y = true ∧ allX (varQ fun z => decide (z ∈ sc)) y = true := fun {y n} hy => by
    have g := w.nz hs 2
    have e : CxE (nmx 2 ts cs) sc y := ⟨_, _, hy⟩
    refine ⟨?_, CxE.vars g e⟩
    unfold fitsS
    rw [if_neg (by decide), if_pos rfl, CxE.isx g e, CxE.plain g e, CxE.simple g (no_hash w) e]
    rfl
  have nm : ∀ {z : Str}, Nm z → fitsS "name" (.str z) = true := fun {z} h => by
    unfold fitsS
    rw [if_pos rfl]
    exact isN_nm h
  have zn : ∀ {z : Str}, (z ∈ cs ∨ z = "in") → Nm z := fun {z} h => by
    rcases h with h | rfl
    · exact (w.c z h).1
    · exact in_nm
  cases hx with
  | let_ z x h1 h2 h3 =>
    obtain ⟨k1, k2⟩ := key h3
    refine ⟨?_, ?_⟩
    · rw [formS_some (show lookS "let" = some (["name", "keyless"] : List Str) by decide)]
      show (fitsS "name" (.str z) && (fitsS "keyless" x && true)) = true
      rw [nm h1, k1]
      rfl
    · unfold mayF
      rw [kidsS_some (show lookS "let" = some (["name", "keyless"] : List Str) by decide)]
      show (!([z].any fun z => decide (z ∈ sc)) && [x].all (allX (varQ fun z => decide (z ∈ sc)))) = true
      rw [List.any_cons, List.any_nil, List.all_cons, List.all_nil, k2, decide_eq_false h2]
      rfl
  | need x h3 =>
    obtain ⟨k1, k2⟩ := key (.op false 5 "<" (.tuple [.str "int", .int (0 - 3)]) x (by decide) (.int false 4 (0 - 3) (by decide) (by decide)) h3)
    refine ⟨?_, ?_⟩
    · rw [formS_some (show lookS "need" = some (["keyless"] : List Str) by decide)]
      show (fitsS "keyless" _ && true) = true
      rw [k1]
      rfl
    · unfold mayF
      rw [kidsS_some (show lookS "need" = some (["keyless"] : List Str) by decide), letsL_no (by decide)]
      show (!(([] : List Str).any fun z => decide (z ∈ sc)) && [_].all (allX (varQ fun z => decide (z ∈ sc)))) = true
      rw [List.all_cons, List.all_nil, k2]
      rfl
  | tell x h3 =>
    obtain ⟨k1, k2⟩ := key h3
    refine ⟨?_, ?_⟩
    · rw [formS_some (show lookS "tell" = some (["keyless"] : List Str) by decide)]
      show (fitsS "keyless" _ && true) = true
      rw [k1]
      rfl
    · unfold mayF
      rw [kidsS_some (show lookS "tell" = some (["keyless"] : List Str) by decide), letsL_no (by decide)]
      show (!(([] : List Str).any fun z => decide (z ∈ sc)) && [_].all (allX (varQ fun z => decide (z ∈ sc)))) = true
      rw [List.all_cons, List.all_nil, k2]
      rfl
  | each t z x y h1 h2 h3 h4 =>
    obtain ⟨k1, k2⟩ := row h3
    obtain ⟨l1, l2⟩ := row h4
    refine ⟨?_, ?_⟩
    · rw [formS_some (show lookS "each" = some (["name", "row", "name", "row"] : List Str) by decide)]
      show (fitsS "name" (.str t) && (fitsS "row" x && (fitsS "name" (.str z) && (fitsS "row" y && true)))) = true
      rw [nm (w.t t h1).1, k1, nm (w.c z h2).1, l1]
      rfl
    · unfold mayF
      rw [kidsS_some (show lookS "each" = some (["name", "row", "name", "row"] : List Str) by decide), letsL_no (by decide)]
      show (!(([] : List Str).any fun z => decide (z ∈ sc)) && [x, y].all (allX (varQ fun z => decide (z ∈ sc)))) = true
      rw [List.all_cons, List.all_cons, List.all_nil, k2, l2]
      rfl
  | put t z x y h1 h2 h3 h4 =>
    obtain ⟨k1, k2⟩ := key h3
    obtain ⟨l1, l2⟩ := key h4
    refine ⟨?_, ?_⟩
    · rw [formS_some (show lookS "put" = some (["name", "keyless", "name", "keyless"] : List Str) by decide)]
      show (fitsS "name" (.str t) && (fitsS "keyless" x && (fitsS "name" (.str z) && (fitsS "keyless" y && true)))) = true
      rw [nm (w.t t h1).1, k1, nm (zn h2), l1]
      rfl
    · unfold mayF
      rw [kidsS_some (show lookS "put" = some (["name", "keyless", "name", "keyless"] : List Str) by decide), letsL_no (by decide)]
      show (!(([] : List Str).any fun z => decide (z ∈ sc)) && [x, y].all (allX (varQ fun z => decide (z ∈ sc)))) = true
      rw [List.all_cons, List.all_cons, List.all_nil, k2, l2]
      rfl
end
end L10

namespace L10
open PySem PySem.Spec PyProof.Rows L2 GR AD RZ WX ZE TX RVT
theorem letsL_nm (x : PyData) : letsL x = (letNm x).toList := by
  unfold letsL letNm
  split
  · rename_i w z t
    show (if w = "let" then [z] else []) = (if w = "let" then some z else none).toList
    split <;> rfl
  · rename_i h
    first
      | rfl
      | (split
         · exact (h _ _ _ rfl).elim
         · rfl)
theorem letsD_flat : ∀ ds : List PyData, ds.flatMap letsL = letsD ds
  | [] => rfl
  | x :: ds => by
    have ih := letsD_flat ds
    unfold letsD at ih ⊢
    rw [List.flatMap_cons, List.filterMap_cons, ih, letsL_nm]
    cases letNm x <;> rfl
theorem goT_append : ∀ (a b : List PyData) (kn : List Str), goT kn (a ++ b) = (goT kn a && goT (kn ++ a.flatMap letsL) b)
  | [], b, kn => by
    rw [List.nil_append, List.flatMap_nil, List.append_nil, goT, Bool.true_and]
  | x :: a, b, kn => by
    rw [List.cons_append, goT, goT, goT_append a b, List.flatMap_cons, List.append_assoc, Bool.and_assoc, Bool.and_assoc]
section
variable {S ts cs : List Str}
theorem StX.letNm {sc : List Str} {x : PyData} (h : StX ts cs sc x) {z : Str} (e : L10.letNm x = some z) : Nm z := by
  cases h with
  | let_ z' x h1 h2 h3 =>
    cases (show some z' = some z from e)
    exact h1
  | need x h => rw [letNm_no (by decide)] at e; cases e
  | tell x h => rw [letNm_no (by decide)] at e; cases e
  | each t z x y h1 h2 h3 h4 => rw [letNm_no (by decide)] at e; cases e
  | put t z x y h1 h2 h3 h4 => rw [letNm_no (by decide)] at e; cases e
theorem Chain.nm {ds : List PyData} (h : Chain ts cs ds) : ∀ z, z ∈ letsD ds → Nm z := by
  induction h with
  | nil => exact fun z hz => (nomatch hz)
  | snoc ds x _ hx ih =>
    intro z hz
    rw [letsD_append] at hz
    rcases List.mem_append.mp hz with hz | hz
    · exact ih z hz
    · unfold letsD at hz
      rw [List.filterMap_cons] at hz
      cases e : L10.letNm x with
      | none => rw [e] at hz; exact (nomatch hz)
      | some y =>
        rw [e] at hz
        rw [List.mem_singleton.mp hz]
        exact hx.letNm e
theorem Chain.ok (w : Wz S ts cs) {ds : List PyData} (h : Chain ts cs ds) (hl : ∀ z, z ∈ letsD ds → z ∈ S) : goT [] ds = true := by
  induction h with
  | nil => rfl
  | snoc ds x hc hx ih =>
    have hl' : ∀ z, z ∈ letsD ds → z ∈ S := fun z hz => hl z (by rw [letsD_append]; exact List.mem_append_left _ hz)
    obtain ⟨h1, h2⟩ := hx.ok w fun z hz => ⟨hc.nm z hz, hl' z hz⟩
    rw [goT_append, ih hl', letsD_flat, List.nil_append, goT, goT, h1, h2]
    rfl
theorem StX.bd {q m : Nat} (b : Bs S q m) (w : Wz S ts cs) {sc : List Str} (hs : ∀ z, z ∈ sc → Nm z ∧ z ∈ S) {x : PyData} (hx : StX ts cs sc x) (hl : ∀ z, L10.letNm x = some z → z ∈ S) : Bd S q m 73000 7300 13 x := by
  have e6 : tX 6 = 72800 := by decide
  have f6 : sX 6 = 7280 := by decide
  have key : ∀ {l : Int} {b' : Bool} {n : Nat} {y : PyData}, Cx (nmx l ts cs) sc b' n y → n ≤ 5 → Bd S q m 24200 2420 12 y := fun {l b' n y} hy hn =>
    ((hy.mono hn).bd b (w.nz hs l)).mono (Nat.le_of_eq tX5) (Nat.le_of_eq sX5) (by omega)
  cases hx with
  | let_ z x h1 h2 h3 => exact (((b.w (w := "let") (by decide) _).two ((b.n ⟨h1, hl z rfl⟩ _).two ((key h3 (by omega)).two .nil))).tup).mono (by omega) (by omega) (by omega)
  | need x h3 =>
    have := (Cx.op false 5 "<" (.tuple [.str "int", .int (0 - 3)]) x (by decide) (.int false 4 (0 - 3) (by decide) (by decide)) h3).bd b (w.nz hs 0)
    rw [e6, f6] at this
    exact (((b.w (w := "need") (by decide) _).two (this.two .nil)).tup).mono (by omega) (by omega) (by omega)
  | tell x h3 => exact (((b.w (w := "tell") (by decide) _).two ((key h3 (by omega)).two .nil)).tup).mono (by omega) (by omega) (by omega)
  | each t z x y h1 h2 h3 h4 => exact (((b.w (w := "each") (by decide) _).two ((b.n (w.t t h1) _).two ((key h3 (by omega)).two ((b.n (w.c z h2) _).two ((key h4 (by omega)).two .nil))))).tup).mono (by omega) (by omega) (by omega)
  | put t z x y h1 h2 h3 h4 =>
    have hz : Nm z ∧ z ∈ S := by
      rcases h2 with h2 | rfl
      · exact w.c z h2
      · exact ⟨in_nm, w.i⟩
    exact (((b.w (w := "put") (by decide) _).two ((b.n (w.t t h1) _).two ((key h3 (by omega)).two ((b.n hz _).two ((key h4 (by omega)).two .nil))))).tup).mono (by omega) (by omega) (by omega)
theorem Chain.bd {q m : Nat} (b : Bs S q m) (w : Wz S ts cs) {ds : List PyData} (h : Chain ts cs ds) (hl : ∀ z, z ∈ letsD ds → z ∈ S) : ∀ x, x ∈ ds → Bd S q m 73000 7300 13 x := by
  induction h with
  | nil => exact fun x hx => (nomatch hx)
  | snoc ds x hc hx ih =>
    have hl' : ∀ z, z ∈ letsD ds → z ∈ S := fun z hz => hl z (by rw [letsD_append]; exact List.mem_append_left _ hz)
    intro y hy
    rcases List.mem_append.mp hy with hy | hy
    · exact ih hl' y hy
    · rw [List.mem_singleton.mp hy]
      refine hx.bd b w (fun z hz => ⟨hc.nm z hz, hl' z hz⟩) fun z e => hl z ?_
      rw [letsD_append]
      refine List.mem_append_right _ ?_
      unfold letsD
      rw [List.filterMap_cons, e]
      exact List.mem_singleton.mpr rfl
end
/-! ### the log that is made -/
end L10

/-! texts of plain expressions -/
namespace L10
open PySem PySem.Spec PyProof.Rows L2 GR AD RZ WX ZE TX RVT
open SX (S S_cat S_len S_inj)
theorem ofs_app (a b : String) : PySem.Str.ofString (a ++ b) = PySem.Str.ofString a ++ PySem.Str.ofString b := by
  rw [PySem.Str.ofString_eq_toList, PySem.Str.ofString_eq_toList, PySem.Str.ofString_eq_toList, S_cat, String.toList_append, List.map_append]
/-- the signs of an integer -/
def num (i : Int) : List Nat := if i < 0 then 45 :: TL.numL (0 - i).toNat else TL.numL i.toNat
theorem str_num (i : Int) : PySem.Str.ofString (toString i) = S (num i) := by
  unfold num
  by_cases h : i < 0
  · rw [if_pos h, toString_neg h]
    have e : (0 - i) = ((0 - i).toNat : Int) := by omega
    rw [e]
    have := SX.num_S (0 - i).toNat
    have e2 : PySem.Str.ofString ("-" ++ toString (((0 - i).toNat : Nat) : Int)) = PySem.Str.ofString "-" ++ PySem.Str.ofString (toString (((0 - i).toNat : Nat) : Int)) := by
      exact ofs_app _ _
    rw [e2, this, show PySem.Str.ofString "-" = S [45] by decide +kernel, S_cat]
    rfl
  · rw [if_neg h]
    have e : i = (i.toNat : Int) := by omega
    rw [e]
    exact SX.num_S i.toNat
theorem num_len {i : Int} (h1 : -(10 ^ 18) ≤ i) (h2 : i ≤ 10 ^ 18) : (num i).length ≤ 20 := by
  unfold num
  split
  · have := TL.numL_len (n := (0 - i).toNat) (k := 19) (by decide) (by omega)
    rw [List.length_cons]
    omega
  · have := TL.numL_len (n := i.toNat) (k := 19) (by decide) (by omega)
    omega
theorem num_read {i : Int} (h1 : -(10 ^ 18) ≤ i) (h2 : i ≤ 10 ^ 18) : intText? (S (num i)) = some i := by
  have hl := num_len h1 h2
  by_cases h : i < 0
  · have e : num i = 45 :: TL.numL (0 - i).toNat := by unfold num; rw [if_pos h]
    have := PySem.intText_neg (x := S (num i)) (cs := TL.numL (0 - i).toNat) (by rw [e]) (TL.numL_digits _) (TL.numL_ne _) (by rw [S_len]; omega)
    rw [this, TL.numL_val]
    congr 1
    omega
  · have e : num i = TL.numL i.toNat := by unfold num; rw [if_neg h]
    have h4 : PySem.Str.ofString (toString ((i.toNat : Nat) : Int)) = S (num i) := by rw [e]; exact SX.num_S _
    have := TL.int_num (n := i.toNat) (by rw [← e]; omega)
    rw [h4] at this
    rw [this]
    congr 1
    omega
theorem num_ne (i : Int) : num i ≠ [] := by
  unfold num
  split
  · exact List.cons_ne_nil _ _
  · exact TL.numL_ne _
abbrev isD (c : Nat) : Bool := decide (48 ≤ c) && decide (c ≤ 57)
theorem numL_all (n : Nat) : (TL.numL n).all isD = true := List.all_eq_true.mpr fun c hc => by
  have := TL.numL_digits n c hc
  rw [Bool.and_eq_true, decide_eq_true_eq, decide_eq_true_eq]
  exact this
/-- a sign ahead, or none, and digits -/
theorem num_form (i : Int) : ∃ (ng : Bool) (ds : List Nat), num i = (if ng then [45] else []) ++ ds ∧ ds ≠ [] ∧ ds.all isD = true := by
  by_cases h : i < 0
  · exact ⟨true, TL.numL (0 - i).toNat, by unfold num; rw [if_pos h]; rfl, TL.numL_ne _, numL_all _⟩
  · exact ⟨false, TL.numL i.toNat, by unfold num; rw [if_neg h]; rfl, TL.numL_ne _, numL_all _⟩
/-- the signs of a word -/
abbrev wd (z : Str) : List Nat := z.cps.toList
theorem S_wd (z : Str) : S (wd z) = z := SX.S_tl z
abbrev commas (ls : List (List Nat)) : List Nat := TL.joinL [44, 32] ls
abbrev callk : List (Str × Nat) := [("if", 3), ("at", 2)]
abbrev aggn : List (Str × Nat) := [("count", 1), ("sum", 2), ("most", 3), ("first", 2)]
/-- a plain expression, nested at most n deep, and its text -/
inductive Tx : Nat → PyData → List Nat → Prop
  | int (n : Nat) (i : Int) : -(10 ^ 18) ≤ i → i ≤ 10 ^ 18 → Tx (n + 1) (.tuple [.str "int", .int i]) (num i)
  | key (n : Nat) : Tx (n + 1) (.tuple [.str "key"]) (wd "key")
  | var (n : Nat) (z : Str) : Nm z → Tx (n + 1) (.tuple [.str "var", .str z]) (wd z)
  | cell (n : Nat) (t v : Str) (x : PyData) (l : List Nat) : Nm t → Nm v → Tx n x l → Tx (n + 1) (.tuple [.str "cell", .str t, x, .str v]) (wd t ++ (91 :: (l ++ (93 :: 46 :: wd v))))
  | op (n : Nat) (o : Str) (x y : PyData) (l m : List Nat) : o ∈ ops5 → Tx n x l → Tx n y m → Tx (n + 1) (.tuple [.str o, x, y]) (40 :: (l ++ (32 :: (wd o ++ (32 :: (m ++ [41]))))))
  | call (n : Nat) (o : Str) (xs : List PyData) (ls : List (List Nat)) : (o, xs.length) ∈ callk → ls.length = xs.length → (∀ p, p ∈ xs.zip ls → Tx n p.1 p.2) → Tx (n + 1) (.tuple (.str o :: xs)) (wd o ++ (40 :: (commas ls ++ [41])))
  | agg (n : Nat) (o t : Str) (xs : List PyData) (ls : List (List Nat)) : 2 ≤ n → (o, xs.length) ∈ aggn → Nm t → ls.length = xs.length → (∀ p, p ∈ xs.zip ls → Tx n p.1 p.2) →
      Tx (n + 1) (.tuple (.str o :: .str t :: .tuple [] :: rowX t :: xs)) (wd o ++ (40 :: (wd t ++ (44 :: 32 :: (commas ls ++ [41])))))
theorem Tx.mono {n m : Nat} {d : PyData} {l : List Nat} (h : Tx n d l) (e : n ≤ m) : Tx m d l := by
  induction h generalizing m with
  | int n i h1 h2 => obtain ⟨k, rfl⟩ : ∃ k, m = k + 1 := ⟨m - 1, by omega⟩; exact .int k i h1 h2
  | key n => obtain ⟨k, rfl⟩ : ∃ k, m = k + 1 := ⟨m - 1, by omega⟩; exact .key k
  | var n z h1 => obtain ⟨k, rfl⟩ : ∃ k, m = k + 1 := ⟨m - 1, by omega⟩; exact .var k z h1
  | cell n t v x l h1 h2 _ ih => obtain ⟨k, rfl⟩ : ∃ k, m = k + 1 := ⟨m - 1, by omega⟩; exact .cell k t v x l h1 h2 (ih (by omega))
  | op n o x y l r h1 _ _ ih1 ih2 => obtain ⟨k, rfl⟩ : ∃ k, m = k + 1 := ⟨m - 1, by omega⟩; exact .op k o x y l r h1 (ih1 (by omega)) (ih2 (by omega))
  | call n o xs ls h1 h2 _ ih => obtain ⟨k, rfl⟩ : ∃ k, m = k + 1 := ⟨m - 1, by omega⟩; exact .call k o xs ls h1 h2 fun p hp => ih p hp (by omega)
  | agg n o t xs ls h0 h1 h2 h3 _ ih => obtain ⟨k, rfl⟩ : ∃ k, m = k + 1 := ⟨m - 1, by omega⟩; exact .agg k o t xs ls (by omega) h1 h2 h3 fun p hp => ih p hp (by omega)
/-- texts for all of a list -/
theorem txs_of {n : Nat} : ∀ {xs : List PyData}, (∀ x, x ∈ xs → ∃ l, Tx n x l) → ∃ ls : List (List Nat), ls.length = xs.length ∧ ∀ p, p ∈ xs.zip ls → Tx n p.1 p.2
  | [], _ => ⟨[], rfl, fun p hp => (nomatch hp)⟩
  | x :: xs, h => by
    obtain ⟨l, hl⟩ := h x List.mem_cons_self
    obtain ⟨ls, h1, h2⟩ := txs_of fun y hy => h y (List.mem_cons_of_mem _ hy)
    refine ⟨l :: ls, by rw [List.length_cons, List.length_cons, h1], fun p hp => ?_⟩
    rw [List.zip_cons_cons] at hp
    rcases List.mem_cons.mp hp with rfl | hp
    · exact hl
    · exact h2 p hp
theorem aggn_of {o : Str} {a b : Nat} (h : (o, a, b) ∈ aggk) : (o, 1 + (a + b)) ∈ aggn := by
  simp only [aggk, List.mem_cons, List.not_mem_nil, or_false, Prod.mk.injEq] at h
  rcases h with ⟨rfl, rfl, rfl⟩ | ⟨rfl, rfl, rfl⟩ | ⟨rfl, rfl, rfl⟩ | ⟨rfl, rfl, rfl⟩ <;> decide
theorem Cx.tx {S' zs sc : List Str} (g : Nz S' zs sc) {b : Bool} {n : Nat} {x : PyData} (h : Cx zs sc b n x) : ∃ l, Tx n x l := by
  induction h with
  | int _ n i h1 h2 => exact ⟨_, .int n i h1 h2⟩
  | let_ _ n i g9 => exact absurd g9 g.plus
  | key n => exact ⟨_, .key n⟩
  | var _ n z h1 => exact ⟨_, .var n z (g.sc z h1).1⟩
  | cell _ n t v x h1 h2 _ ih =>
    obtain ⟨l, hl⟩ := ih
    exact ⟨_, .cell n t v x l (g.nm t h1.1 h1.2).1 (g.nm v h2.1 h2.2).1 hl⟩
  | op _ n o x y h1 _ _ ih1 ih2 =>
    obtain ⟨l, hl⟩ := ih1
    obtain ⟨m, hm⟩ := ih2
    exact ⟨_, .op n o x y l m h1 hl hm⟩
  | at_ _ n x y _ _ ih1 ih2 =>
    obtain ⟨ls, h1, h2⟩ := txs_of (n := n) (xs := [x, y]) fun z hz => by
      simp only [List.mem_cons, List.not_mem_nil, or_false] at hz
      rcases hz with rfl | rfl
      · exact ih1
      · exact ih2
    exact ⟨_, .call n "at" [x, y] ls (by show (("at" : Str), 2) ∈ callk; decide) h1 h2⟩
  | iff _ n x y z _ _ _ ih1 ih2 ih3 =>
    obtain ⟨ls, h1, h2⟩ := txs_of (n := n) (xs := [x, y, z]) fun u hu => by
      simp only [List.mem_cons, List.not_mem_nil, or_false] at hu
      rcases hu with rfl | rfl | rfl
      · exact ih1
      · exact ih2
      · exact ih3
    exact ⟨_, .call n "if" [x, y, z] ls (by show (("if" : Str), 3) ∈ callk; decide) h1 h2⟩
  | agg _ n o t p xs vs ds hh h0 h1 h2 h3 h4 h5 h6 h7 _ ih2 ih3 ih4 =>
    obtain rfl : xs = [] := List.length_eq_zero_iff.mp (Nat.le_zero.mp h3)
    obtain ⟨ls, g1, g2⟩ := txs_of (n := n) (xs := p :: (vs ++ ds)) fun u hu => by
      rcases List.mem_cons.mp hu with rfl | hu
      · exact ih2
      rcases List.mem_append.mp hu with hu | hu
      · exact ih3 u hu
      · exact ih4 u hu
    have hk : (o, (p :: (vs ++ ds)).length) ∈ aggn := by
      have := aggn_of h1
      rw [List.length_cons, List.length_append]
      rw [Nat.add_comm]
      exact this
    exact ⟨_, .agg n o t (p :: (vs ++ ds)) ls h0 hk (g.nm t h2.1 h2.2).1 g1 g2⟩
end L10

/-! the reader -/
namespace L10
open PySem PySem.Spec PyProof.Rows L2 GR AD RZ WX ZE TX RVT
open SX (S S_cat S_len S_inj)
/-- a statement that is never reached -/
def tFalse : TS := fun _ _ _ => False
theorem ps_never {X : L2.Cx} {st : Stmt} : PS X st tFalse := ⟨fun _ _ _ _ _ _ h => h.elim⟩
/-! texts by places -/
theorem start3 {l q : List Nat} {i : Nat} (hi : i ≤ l.length) : Txt.startswith3 (S l) (S q) (i : Int) = q.isPrefixOf (l.drop i) := by
  have e1 : fromIndex (S l).length (i : Int) = i := by
    unfold fromIndex
    rw [if_neg (by omega)]
    omega
  unfold Txt.startswith3
  rw [e1, PySem.StrLaws.subAt_eq]
  have e2 : (S l).cps.toList = l := rfl
  have e3 : (S q).cps.toList = q := rfl
  rw [e2, e3, S_len, S_len, Bool.eq_iff_iff, Bool.and_eq_true, decide_eq_true_eq, beq_iff_eq, List.isPrefixOf_iff_prefix]
  constructor
  · rintro ⟨_, h⟩
    rw [← h]
    exact List.take_prefix _ _
  · rintro ⟨r, hr⟩
    have hl : (l.drop i).length = q.length + r.length := by rw [← hr, List.length_append]
    rw [List.length_drop] at hl
    refine ⟨by omega, ?_⟩
    rw [← hr, List.take_left]
theorem cut_at' {l : List Nat} {i j : Nat} (hi : i ≤ j) (hj : j ≤ l.length) : cutS (S l) (some (i : Int)) (some (j : Int)) = S ((l.drop i).take (j - i)) := by
  unfold cutS
  have h1 : HT.sIx (S l).length 0 (some (i : Int)) = i := by rw [HT.sIx_nat, S_len]; omega
  have h2 : HT.sIx (S l).length (S l).length (some (j : Int)) = j := by rw [HT.sIx_nat, S_len]; omega
  rw [h1, h2]
theorem cut_one {l : List Nat} {i : Nat} (hi : i ≤ l.length) : cutS (S l) (some (i : Int)) (some ((i : Int) + 1)) = S ((l.drop i).take 1) := by
  unfold cutS
  have h1 : HT.sIx (S l).length 0 (some (i : Int)) = i := by rw [HT.sIx_nat, S_len]; omega
  rw [h1, show ((i : Int) + 1) = ((i + 1 : Nat) : Int) from rfl]
  have h2 : HT.sIx (S l).length (S l).length (some ((i + 1 : Nat) : Int)) = min (i + 1) l.length := by rw [HT.sIx_nat, S_len]
  rw [h2]
  have e : ((S l).cps.toList.drop i).take (min (i + 1) l.length - i) = (l.drop i).take 1 := by
    show (l.drop i).take (min (i + 1) l.length - i) = (l.drop i).take 1
    by_cases h : i + 1 ≤ l.length
    · rw [Nat.min_eq_left h, show i + 1 - i = 1 by omega]
    · have : l.drop i = [] := List.drop_of_length_le (by omega)
      rw [this, List.take_nil, List.take_nil]
  rw [e]
/-! the object -/
theorem tp : ¬ (("text" : Str) = "place") := by decide +kernel
def fl (z : Str) (i : Nat) : List (Str × V) := putF "place" (.int (i : Int)) (putF "text" (.str z) [])
theorem fl_eq (z : Str) (i : Nat) : fl z i = ([("text", V.str z), ("place", V.int (i : Int))] : List (Str × V)) := by
  show (if ("text" : Str) = "place" then [(("text" : Str), V.int (i : Int))] else (("text" : Str), V.str z) :: putF "place" (V.int (i : Int)) []) = ([("text", V.str z), ("place", V.int (i : Int))] : List (Str × V))
  rw [if_neg tp]
  all_goals rfl
theorem fl_text (z : Str) (i : Nat) : (fl z i).lookup ("text" : Str) = some (.str z) := by
  unfold fl
  rw [lookup_putF, if_neg tp, lookup_putF, if_pos rfl]
theorem fl_place (z : Str) (i : Nat) : (fl z i).lookup ("place" : Str) = some (.int (i : Int)) := by
  unfold fl
  rw [lookup_putF, if_pos rfl]
theorem fl_no (z : Str) (i : Nat) {m : Str} (h1 : ¬ m = "place") (h2 : ¬ m = "text") : (fl z i).lookup m = none := by
  unfold fl
  rw [lookup_putF, if_neg h1, lookup_putF, if_neg h2]
  all_goals rfl
theorem fl_put (z : Str) (i j : Nat) : putF "place" (.int (j : Int)) (fl z i) = fl z j := by
  rw [fl_eq, fl_eq]
  show (if ("text" : Str) = "place" then _ else (("text" : Str), V.str z) :: (if ("place" : Str) = "place" then [(("place" : Str), V.int (j : Int))] else _)) = ([("text", V.str z), ("place", V.int (j : Int))] : List (Str × V))
  rw [if_neg tp, if_pos rfl]
/-- at p a reader of the text l, up to the place i -/
def RdAt (C : Addr) (H : Hp) (p : Addr) (l : List Nat) (i : Nat) : Prop := ∃ dx, H p = some (.ins C dx (fl (S l) i))
/-- all but p is as it was -/
def KeepR (p : Addr) (H H' : Hp) : Prop := ∀ b o, b ≠ p → H b = some o → H' b = some o
theorem KeepR.refl {p : Addr} {H : Hp} : KeepR p H H := fun _ _ _ e => e
theorem KeepR.of {p : Addr} {H H' : Hp} (s : Same H H') : KeepR p H H' := fun b o _ e => s b o e
theorem KeepR.trans {p : Addr} {H H1 H2 : Hp} (a : KeepR p H H1) (b : KeepR p H1 H2) : KeepR p H H2 := fun x o h e => b x o h (a x o h e)
/-- what the class says -/
structure RC (K : PySem.W.Frag) (C : Addr) : Prop where
  cl : Cls K C
  nT : NoAttr K C "text"
  nP : NoAttr K C "place"
section
variable {P : Program} {w : World} {K : PySem.W.Frag} {mg : Str → Option Value} {base : Heap}
abbrev sReader : Stmt := topS 35
abbrev s_init : Stmt := inClass sReader 0
abbrev s_is_next : Stmt := inClass sReader 1
abbrev s_is_any_next : Stmt := inClass sReader 2
abbrev s_take : Stmt := inClass sReader 3
abbrev s_take_any : Stmt := inClass sReader 4
abbrev s_take_while : Stmt := inClass sReader 5
abbrev s_take_word : Stmt := inClass sReader 6
abbrev s_take_name : Stmt := inClass sReader 7
abbrev s_take_value : Stmt := inClass sReader 8
abbrev s_take_end : Stmt := inClass sReader 9
theorem sc_init : FnScope ["self", "text"] ["self", "text"] (defScope s_init) := ⟨rfl, rfl, rfl, by decide +kernel, rfl, by decide +kernel, by decide +kernel⟩
def sp_rinit (C : Addr) : Sp := fun vs H Q _ => ∃ (p dx : Addr) (l : List Nat), vs = [.ref p, .str (S l)] ∧ H p = some (.ins C dx []) ∧ ∀ H', RdAt C H' p l 0 → KeepR p H H' → Q .non H'
theorem ok_rinit {f C : Addr} {fd : FuncData} {k : Nat} (F : Fun K "__init__" "Reader.__init__" s_init f fd) (T : RC K C) : FnOk P w K mg base CX0 (k + 1) f fd ["self", "text"] (sp_rinit C) := by
  refine F.ok sc_init (fun vs H Q E h => ?_) (fun cdv A outer s H vs Q E hr h => ?_)
  · obtain ⟨p, dx, l, rfl, _⟩ := h
    rfl
  obtain ⟨p, dx, l, rfl, hp, q⟩ := h
  refine ⟨_, pss_cons (ps_fld (pv 0) (pv 1) rfl) (pss_one (ps_fld (pv 0) pe_int rfl)), ?_⟩
  refine ⟨_, rfl, _, rfl, p, C, dx, [], rfl, hp, T.cl, T.nT, (by show 0 < 1000; decide), _, rfl, p, C, dx, _, rfl, upd_same, T.cl, T.nP, (by show 1 < 1000; decide), ?_⟩
  exact q _ ⟨dx, upd_same⟩ fun b o hb e => by rw [upd_ne hb, upd_ne hb]; exact e
theorem sc_is_next : FnScope ["self", "piece"] ["self", "piece"] (defScope s_is_next) := ⟨rfl, rfl, rfl, by decide +kernel, rfl, by decide +kernel, by decide +kernel⟩
def sp_next (C : Addr) : Sp := fun vs H Q _ => ∃ (p : Addr) (l q : List Nat) (i : Nat), vs = [.ref p, .str (S q)] ∧ RdAt C H p l i ∧ i ≤ l.length ∧ Q (.bl (q.isPrefixOf (l.drop i))) H
theorem ok_next {f C : Addr} {fd : FuncData} {k : Nat} (F : Fun K "is_next" "Reader.is_next" s_is_next f fd) (T : RC K C) : FnOk P w K mg base CX0 (k + 1) f fd ["self", "piece"] (sp_next C) := by
  refine F.ok sc_is_next (fun vs H Q E h => ?_) (fun cdv A outer s H vs Q E hr h => ?_)
  · obtain ⟨p, l, q, i, rfl, _⟩ := h
    rfl
  obtain ⟨p, l, q, i, rfl, ⟨dx, hp⟩, hi, qq⟩ := h
  refine ⟨_, (pss_one (ps_ret (pe_bm PySem.F.plainAttrs_str PySem.F.slot_str_startswith PySem.F.type_str_startswith mt_startswith3 (pe_fld (pv 0) rfl) (pa_cons (pv 1) (pa_cons (pe_fld (pv 0) rfl) pa_nil))))), ?_⟩
  refine ⟨_, rfl, p, C, dx, _, _, rfl, hp, T.cl, T.nT, fl_text _ _, rfl, _, rfl, _, rfl, p, C, dx, _, _, rfl, hp, T.cl, T.nP, fl_place _ _, S l, S q, (i : Int), rfl, rfl, ?_⟩
  rw [start3 hi]
  exact qq
theorem sc_is_any_next : FnScope ["self", "signs", "sign"] ["self", "signs"] (defScope s_is_any_next) := ⟨rfl, rfl, rfl, by decide +kernel, rfl, by decide +kernel, by decide +kernel⟩
/-- the next sign is one of these -/
def nextIn (z : Str) (r : List Nat) : Bool := match r with | c :: _ => decide (c ∈ wd z) | [] => false
def sp_anext (C : Addr) : Sp := fun vs H Q _ => ∃ (p : Addr) (l : List Nat) (z : Str) (i : Nat), vs = [.ref p, .str z] ∧ RdAt C H p l i ∧ i ≤ l.length ∧ l.length ≤ 8000000 ∧ Q (.bl (nextIn z (l.drop i))) H
theorem ok_anext {f C : Addr} {fd : FuncData} {k : Nat} (F : Fun K "is_any_next" "Reader.is_any_next" s_is_any_next f fd) (T : RC K C) : FnOk P w K mg base CX0 (k + 1) f fd ["self", "signs"] (sp_anext C) := by
  have nd := sc_is_any_next.nd
  refine F.ok sc_is_any_next (fun vs H Q E h => ?_) (fun cdv A outer s H vs Q E hr h => ?_)
  · obtain ⟨p, l, z, i, rfl, _⟩ := h
    rfl
  obtain ⟨p, l, z, i, rfl, ⟨dx, hp⟩, hi, hl, qq⟩ := h
  refine ⟨_, (pss_cons (ps_set (i := 2) nd rfl (.inl rfl) (pe_slice sl_str (pe_fld (pv 0) rfl) (po_some (pe_fld (pv 0) rfl)) (po_some (pe_op op_add (pe_fld (pv 0) rfl) pe_int))))
      (pss_one (ps_ret (pe_and (pe_cmpR op_ne (pv 2) pe_str (nomark _)) (pe_one (pe_cmpR op_in_sign (pv 2) (pv 1) (by rfl))))))), ?_⟩
  refine ⟨_, rfl, p, C, dx, _, _, rfl, hp, T.cl, T.nT, fl_text _ _, _, rfl, p, C, dx, _, _, rfl, hp, T.cl, T.nP, fl_place _ _, (i : Int), rfl, _, rfl, p, C, dx, _, _, rfl, hp, T.cl, T.nP, fl_place _ _, (i : Int), 1, rfl, rfl, (i : Int) + 1, rfl, S l, rfl, by rw [S_len, sizeLine_eq]; omega, ?_⟩
  rw [cut_one hi]
  cases e : l.drop i with
  | nil =>
    rw [e] at qq
    refine ⟨.str (S []), rfl, rfl, _, rfl, ?_⟩
    rw [show (!decide (V.str (S []) = V.str "")) = false by decide +kernel]
    exact iteF qq
  | cons c r =>
    rw [e] at qq
    refine ⟨.str (S [c]), rfl, rfl, _, rfl, ?_⟩
    rw [show (!decide (V.str (S [c]) = V.str "")) = true from by
      rw [decide_eq_false (fun e => by injection e with e; have := congrArg PySem.Str.length e; rw [S_len] at this; cases this)]; rfl]
    exact iteT ⟨.str (S [c]), rfl, .str z, rfl, c, z, rfl, rfl, qq⟩
theorem sc_take : FnScope ["self", "piece"] ["self", "piece"] (defScope s_take) := ⟨rfl, rfl, rfl, by decide +kernel, rfl, by decide +kernel, by decide +kernel⟩
def sp_take (C : Addr) : Sp := fun vs H Q _ => ∃ (p : Addr) (l q r : List Nat) (i : Nat), vs = [.ref p, .str (S q)] ∧ RdAt C H p l i ∧ i ≤ l.length ∧ l.drop i = q ++ r ∧ l.length ≤ 8000000 ∧
  ∀ H', KeepR p H H' → RdAt C H' p l (i + q.length) → l.drop (i + q.length) = r → i + q.length ≤ l.length → Q .non H'
theorem pre_app (q r : List Nat) : q.isPrefixOf (q ++ r) = true := List.isPrefixOf_iff_prefix.mpr (List.prefix_append q r)
theorem drop_on {l q r : List Nat} {i : Nat} (h : l.drop i = q ++ r) (hi : i ≤ l.length) : l.drop (i + q.length) = r ∧ i + q.length ≤ l.length := by
  have e : (l.drop i).drop q.length = r := by rw [h, List.drop_left]
  rw [List.drop_drop] at e
  have hl : (l.drop i).length = q.length + r.length := by rw [h, List.length_append]
  rw [List.length_drop] at hl
  exact ⟨e, by omega⟩
theorem ok_take {f fn C : Addr} {fd dn : FuncData} {k : Nat} (F : Fun K "take" "Reader.take" s_take f fd) (T : RC K C) (Gn : FnOk P w K mg base CX0 k fn dn ["self", "piece"] (sp_next C)) (mn : Meth K C "is_next" fn) (bn : Binds K dn ["self", "piece"] []) (mlen : mg "len" = none) : FnOk P w K mg base CX0 (k + 1) f fd ["self", "piece"] (sp_take C) := by
  refine F.ok sc_take (fun vs H Q E h => ?_) (fun cdv A outer s H vs Q E hr h => ?_)
  · obtain ⟨p, l, q, r, i, rfl, _⟩ := h
    rfl
  obtain ⟨p, l, q, r, i, rfl, ⟨dx, hp⟩, hi, hd, hl, qq⟩ := h
  refine ⟨_, (pss_cons (ps_if (pt_not (pt_val (pe_meth (pv 0) T.cl mn Gn hr bn .nil pass0 (pa_cons (pv 1) pa_nil)))) (pss_one ps_never) pss_nil)
      (pss_one (ps_fldaug (pv 0) (pe_callB call_len_str (by rfl) mlen PySem.boot_len (pa_cons (pv 1) pa_nil)) in_add))), ?_⟩
  obtain ⟨d1, d2⟩ := drop_on hd hi
  refine ⟨.ref p, rfl, p, dx, _, rfl, hp, fl_no _ _ (by decide +kernel) (by decide +kernel), .str (S q), rfl, p, l, q, i, rfl, ⟨dx, hp⟩, hi, _, rfl, ?_⟩
  rw [hd, pre_app]
  refine iteF ⟨.ref p, rfl, p, C, dx, _, _, rfl, hp, T.cl, T.nP, fl_place _ _, .str (S q), rfl, S q, rfl, ?_, (i : Int), ((S q).length : Int), rfl, rfl, dx, _, hp, (by rw [fl_eq]; show 2 < 1000; decide), ?_⟩
  · rw [S_len, sizeLine_eq]
    omega
  · rw [S_len, show (i : Int) + (q.length : Int) = ((i + q.length : Nat) : Int) from rfl, fl_put]
    exact qq _ (fun b o hb e => by rw [upd_ne hb]; exact e) ⟨dx, upd_same⟩ d1 d2
end
end L10

namespace L10
open PySem PySem.Spec PyProof.Rows L2 GR AD RZ WX ZE TX RVT
open SX (S S_cat S_len S_inj)
section
variable {P : Program} {w : World} {K : PySem.W.Frag} {mg : Str → Option Value} {base : Heap}
theorem sc_take_any : FnScope ["self", "pieces", "piece"] ["self", "pieces"] (defScope s_take_any) := ⟨rfl, rfl, rfl, by decide +kernel, rfl, by decide +kernel, by decide +kernel⟩
def sp_tany (K : PySem.W.Frag) (C : Addr) : Sp := fun vs H Q _ => ∃ (p t : Addr) (l r : List Nat) (i : Nat) (as bs : List Str) (z : Str), vs = [.ref p, .ref t] ∧ SqT K H t ((as ++ z :: bs).map V.str) ∧ RdAt C H p l i ∧ i ≤ l.length ∧ l.length ≤ 8000000 ∧
  (∀ a, a ∈ as → (wd a).isPrefixOf (l.drop i) = false) ∧ l.drop i = wd z ++ r ∧
  ∀ H', KeepR p H H' → RdAt C H' p l (i + (wd z).length) → l.drop (i + (wd z).length) = r → i + (wd z).length ≤ l.length → Q (.str z) H'
theorem ok_tany {f fn ft C : Addr} {fd dn dt : FuncData} {k : Nat} (F : Fun K "take_any" "Reader.take_any" s_take_any f fd) (T : RC K C) (Gn : FnOk P w K mg base CX0 k fn dn ["self", "piece"] (sp_next C)) (mn : Meth K C "is_next" fn) (bn : Binds K dn ["self", "piece"] [])
    (Gt : FnOk P w K mg base CX0 k ft dt ["self", "piece"] (sp_take C)) (mt : Meth K C "take" ft) (bt : Binds K dt ["self", "piece"] []) : FnOk P w K mg base CX0 (k + 1) f fd ["self", "pieces"] (sp_tany K C) := by
  have nd := sc_take_any.nd
  refine F.ok sc_take_any (fun vs H Q E h => ?_) (fun cdv A outer s H vs Q E hr h => ?_)
  · obtain ⟨p, t, l, r, i, as, bs, z, rfl, _⟩ := h
    rfl
  obtain ⟨p, t, l, r, i, as, bs, z, rfl, ht, ⟨dx, hp⟩, hi, hl, hno, hd, qq⟩ := h
  refine ⟨_, (pss_cons (ps_for PassesOwn.never rfl (pi_tup (pv 1)) (pg_name (i := 2) nd rfl (Or.inl rfl))
      (pss_one (ps_if (pt_val (pe_meth (pv 0) T.cl mn Gn hr bn .nil pass0 (pa_cons (pv 2) pa_nil)))
        (pss_cons (ps_expr (pe_meth (pv 0) T.cl mt Gt hr bt .nil pass0 (pa_cons (pv 2) pa_nil)))
        (pss_one (ps_ret (pv 2))))
        pss_nil)))
      (pss_one ps_never)), ?_⟩
  refine ⟨.ref t, rfl, t, rfl, ⟨_, ht⟩, ?_⟩
  refine for_it (walk_tup (xs := (as ++ z :: bs).map V.str)) (fun j σ H' => ∃ y, σ = [some (.ref p), some (.ref t), y] ∧ H' = H ∧ j ≤ as.length) ⟨none, rfl, rfl, Nat.zero_le _⟩ ?_ ?_ ?_
  · rintro j σ H' _ ⟨y, rfl, rfl, _⟩
    exact ht
  · rintro j x σ H0' H' hj ⟨y, rfl, rfl, hja⟩ ⟨rfl, hx⟩
    rw [List.getElem?_map] at hx
    obtain ⟨a, ha, rfl⟩ := Option.map_eq_some_iff.mp hx
    refine ⟨.ref p, rfl, p, dx, _, rfl, hp, fl_no _ _ (by decide +kernel) (by decide +kernel), .str a, rfl, p, l, wd a, i, by rw [S_wd]; rfl, ⟨dx, hp⟩, hi, _, rfl, ?_⟩
    by_cases hlt : j < as.length
    · rw [List.getElem?_append_left hlt] at ha
      rw [hno a (List.mem_of_getElem? ha)]
      exact iteF ⟨_, rfl, rfl, hlt⟩
    · have ej : j = as.length := by omega
      subst ej
      rw [List.getElem?_append_right (Nat.le_refl _), Nat.sub_self] at ha
      obtain rfl : z = a := Option.some.inj ha
      rw [hd, pre_app]
      refine iteT ⟨.ref p, rfl, p, dx, _, rfl, hp, fl_no _ _ (by decide +kernel) (by decide +kernel), .str z, rfl, p, l, wd z, r, i, by rw [S_wd]; rfl, ⟨dx, hp⟩, hi, hd, hl, fun H1 k1 r1 d1 l1 => ⟨.str z, rfl, qq H1 k1 r1 d1 l1⟩⟩
  · rintro σ H' ⟨y, rfl, rfl, hja⟩
    rw [List.length_map, List.length_append, List.length_cons] at hja
    omega
theorem sc_take_while : FnScope ["self", "signs", "start"] ["self", "signs"] (defScope s_take_while) := ⟨rfl, rfl, rfl, by decide +kernel, rfl, by decide +kernel, by decide +kernel⟩
def sp_twhile (C : Addr) : Sp := fun vs H Q _ => ∃ (p : Addr) (l u r : List Nat) (z : Str) (i : Nat), vs = [.ref p, .str z] ∧ RdAt C H p l i ∧ i ≤ l.length ∧ l.length ≤ 8000000 ∧ l.drop i = u ++ r ∧ (∀ c, c ∈ u → c ∈ wd z) ∧ nextIn z r = false ∧
  ∀ H', KeepR p H H' → RdAt C H' p l (i + u.length) → l.drop (i + u.length) = r → i + u.length ≤ l.length → Q (.str (S u)) H'
theorem ok_twhile {f fn C : Addr} {fd dn : FuncData} {k : Nat} (F : Fun K "take_while" "Reader.take_while" s_take_while f fd) (T : RC K C) (Gn : FnOk P w K mg base CX0 k fn dn ["self", "signs"] (sp_anext C)) (mn : Meth K C "is_any_next" fn) (bn : Binds K dn ["self", "signs"] []) : FnOk P w K mg base CX0 (k + 1) f fd ["self", "signs"] (sp_twhile C) := by
  have nd := sc_take_while.nd
  refine F.ok sc_take_while (fun vs H Q E h => ?_) (fun cdv A outer s H vs Q E hr h => ?_)
  · obtain ⟨p, l, u, r, z, i, rfl, _⟩ := h
    rfl
  obtain ⟨p, l, u, r, z, i, rfl, ⟨dx, hp⟩, hi, hl, hd, hu, hn, qq⟩ := h
  refine ⟨_, (pss_cons (ps_set (i := 2) nd rfl (.inl rfl) (pe_fld (pv 0) rfl))
      (pss_cons (ps_while PassesOwn.never (pt_val (pe_meth (pv 0) T.cl mn Gn hr bn .nil pass0 (pa_cons (pv 1) pa_nil)))
        (pss_one (ps_fldaug (pv 0) pe_int in_add)))
      (pss_one (ps_ret (pe_slice sl_str (pe_fld (pv 0) rfl) (po_some (pv 2)) (po_some (pe_fld (pv 0) rfl))))))), ?_⟩
  obtain ⟨d1, d2⟩ := drop_on hd hi
  refine ⟨.ref p, rfl, p, C, dx, _, _, rfl, hp, T.cl, T.nP, fl_place _ _, ?_⟩
  refine ⟨fun m σ H' => ∃ j, σ = [some (.ref p), some (.str z), some (.int (i : Int))] ∧ j + m = u.length ∧ H' p = some (.ins C dx (fl (S l) (i + j))) ∧ KeepR p H H', ⟨u.length, 0, rfl, Nat.zero_add _, hp, KeepR.refl⟩, ?_⟩
  rintro m σ H' ⟨j, rfl, hj, hp', kk⟩
  have hdj : l.drop (i + j) = u.drop j ++ r := by
    rw [← List.drop_drop, hd, List.drop_append_of_le_length (by omega)]
  refine ⟨.ref p, rfl, p, dx, _, rfl, hp', fl_no _ _ (by decide +kernel) (by decide +kernel), .str z, rfl, p, l, z, i + j, rfl, ⟨dx, hp'⟩, by omega, hl, _, rfl, ?_⟩
  rw [hdj]
  by_cases hjl : j < u.length
  · have hc : u.drop j = u[j] :: u.drop (j + 1) := List.drop_eq_getElem_cons hjl
    have : nextIn z (u.drop j ++ r) = true := by
      rw [hc]
      exact decide_eq_true (hu _ (List.getElem_mem hjl))
    rw [this]
    refine iteT ⟨fun σ' H'' => ∃ m', m' < m ∧ ∃ j', σ' = [some (.ref p), some (.str z), some (.int (i : Int))] ∧ j' + m' = u.length ∧ H'' p = some (.ins C dx (fl (S l) (i + j'))) ∧ KeepR p H H'', fun σ' H'' h => h, ?_⟩
    refine ⟨.ref p, rfl, p, C, dx, _, _, rfl, hp', T.cl, T.nP, fl_place _ _, ((i + j : Nat) : Int), 1, rfl, rfl, dx, _, hp', (by rw [fl_eq]; show 2 < 1000; decide), ?_⟩
    refine ⟨m - 1, by omega, j + 1, rfl, by omega, ?_, fun b o hb e => by rw [upd_ne hb]; exact kk b o hb e⟩
    rw [upd_same, show ((i + j : Nat) : Int) + 1 = ((i + (j + 1) : Nat) : Int) from rfl, fl_put]
  · have ej : j = u.length := by omega
    subst ej
    rw [List.drop_length, List.nil_append, hn]
    refine iteF ⟨.ref p, rfl, p, C, dx, _, _, rfl, hp', T.cl, T.nT, fl_text _ _, .int (i : Int), rfl, (i : Int), rfl, .ref p, rfl, p, C, dx, _, _, rfl, hp', T.cl, T.nP, fl_place _ _, ((i + u.length : Nat) : Int), rfl, S l, rfl, by rw [S_len, sizeLine_eq]; omega, ?_⟩
    rw [cut_at' (by omega) d2, hd, Nat.add_sub_cancel_left, List.take_left]
    exact qq H' kk ⟨dx, hp'⟩ d1 d2
theorem sc_take_word : FnScope ["self"] ["self"] (defScope s_take_word) := ⟨rfl, rfl, rfl, by decide +kernel, rfl, by decide +kernel, by decide +kernel⟩
def sp_tword (C : Addr) : Sp := fun vs H Q _ => ∃ (p : Addr) (l u r : List Nat) (i : Nat), vs = [.ref p] ∧ RdAt C H p l i ∧ i ≤ l.length ∧ l.length ≤ 8000000 ∧ l.drop i = u ++ r ∧ (∀ c, c ∈ u → c ∈ wd L26) ∧ nextIn L26 r = false ∧
  ∀ H', KeepR p H H' → RdAt C H' p l (i + u.length) → l.drop (i + u.length) = r → i + u.length ≤ l.length → Q (.str (S u)) H'
theorem ok_tword {f fn C : Addr} {fd dn : FuncData} {tk : Tok} {k : Nat} (F : Fun K "take_word" "Reader.take_word" s_take_word f fd) (T : RC K C) (Gn : FnOk P w K mg base CX0 k fn dn ["self", "signs"] (sp_twhile C)) (mn : Meth K C "take_while" fn) (bn : Binds K dn ["self", "signs"] []) (mL : mg "LETTERS" = some (.str L26 tk)) : FnOk P w K mg base CX0 (k + 1) f fd ["self"] (sp_tword C) := by
  refine F.ok sc_take_word (fun vs H Q E h => ?_) (fun cdv A outer s H vs Q E hr h => ?_)
  · obtain ⟨p, l, u, r, i, rfl, _⟩ := h
    rfl
  obtain ⟨p, l, u, r, i, rfl, ⟨dx, hp⟩, hi, hl, hd, hu, hn, qq⟩ := h
  refine ⟨_, (pss_one (ps_ret (pe_meth (pv 0) T.cl mn Gn hr bn .nil pass0 (pa_cons (pe_glob rfl mL (v := .str L26) ⟨tk, rfl⟩) pa_nil)))), ?_⟩
  exact ⟨.ref p, rfl, p, dx, _, rfl, hp, fl_no _ _ (by decide +kernel) (by decide +kernel), p, l, u, r, L26, i, rfl, ⟨dx, hp⟩, hi, hl, hd, hu, hn, qq⟩
theorem sc_take_name : FnScope ["self", "word"] ["self"] (defScope s_take_name) := ⟨rfl, rfl, rfl, by decide +kernel, rfl, by decide +kernel, by decide +kernel⟩
def sp_tname (C : Addr) : Sp := fun vs H Q _ => ∃ (p : Addr) (l r : List Nat) (z : Str) (i : Nat), vs = [.ref p] ∧ RdAt C H p l i ∧ i ≤ l.length ∧ l.length ≤ 8000000 ∧ Nm z ∧ l.drop i = wd z ++ r ∧ nextIn L26 r = false ∧
  ∀ H', KeepR p H H' → RdAt C H' p l (i + (wd z).length) → l.drop (i + (wd z).length) = r → i + (wd z).length ≤ l.length → Q (.str z) H'
theorem low_L26 {c : Nat} (h : Low c) : c ∈ wd L26 := by
  have : ∀ c, 97 ≤ c → c < 123 → decide (c ∈ wd L26) = true := by
    intro c h1 h2
    have hc : c = 97 ∨ c = 98 ∨ c = 99 ∨ c = 100 ∨ c = 101 ∨ c = 102 ∨ c = 103 ∨ c = 104 ∨ c = 105 ∨ c = 106 ∨ c = 107 ∨ c = 108 ∨ c = 109 ∨ c = 110 ∨ c = 111 ∨ c = 112 ∨ c = 113 ∨ c = 114 ∨ c = 115 ∨ c = 116 ∨ c = 117 ∨ c = 118 ∨ c = 119 ∨ c = 120 ∨ c = 121 ∨ c = 122 := by omega
    rcases hc with rfl | rfl | rfl | rfl | rfl | rfl | rfl | rfl | rfl | rfl | rfl | rfl | rfl | rfl | rfl | rfl | rfl | rfl | rfl | rfl | rfl | rfl | rfl | rfl | rfl | rfl <;> decide +kernel
  unfold Low at h
  exact of_decide_eq_true (this c h.1 (by omega))
theorem nm_low {z : Str} (h : Nm z) : ∀ c, c ∈ wd z → c ∈ wd L26 := fun c hc => low_L26 (h.2.2.1 c hc)
theorem nm_sh {z : Str} (h : Nm z) : Sh (.str z) := by
  intro z' e
  cases e
  have h1 := h.2.1
  rw [Array.length_toList] at h1
  exact ⟨show z.cps.size ≤ 1000 by omega, so_iff.mpr (ok_so (nm_okC h))⟩
theorem ok_tname {f fw fn C : Addr} {fd dw dn : FuncData} {k : Nat} (F : Fun K "take_name" "Reader.take_name" s_take_name f fd) (T : RC K C) (Gw : FnOk P w K mg base CX0 k fw dw ["self"] (sp_tword C)) (mw : Meth K C "take_word" fw) (bw : Binds K dw ["self"] [])
    (Gn : FnOk P w K mg base CX0 k fn dn ["thing"] (sp_isS K isN)) (gn : mg "is_name" = some (.ref fn)) (Kn : PySem.W.keepIn K (.ref fn) = true) (bn : Binds K dn ["thing"] []) : FnOk P w K mg base CX0 (k + 1) f fd ["self"] (sp_tname C) := by
  have nd := sc_take_name.nd
  refine F.ok sc_take_name (fun vs H Q E h => ?_) (fun cdv A outer s H vs Q E hr h => ?_)
  · obtain ⟨p, l, r, z, i, rfl, _⟩ := h
    rfl
  obtain ⟨p, l, r, z, i, rfl, ⟨dx, hp⟩, hi, hl, hz, hd, hn, qq⟩ := h
  refine ⟨_, (pss_cons (ps_set (i := 1) nd rfl (.inl rfl) (pe_meth0 (pv 0) T.cl mw Gw hr bw .nil pass0))
      (pss_cons (ps_if (pt_not (pt_val (pe_call Gn hr (by rfl) gn Kn bn .nil pass0 (pa_cons (pv 1) pa_nil)))) (pss_one ps_never) pss_nil)
      (pss_one (ps_ret (pv 1))))), ?_⟩
  refine ⟨.ref p, rfl, p, dx, _, rfl, hp, fl_no _ _ (by decide +kernel) (by decide +kernel), p, l, wd z, r, i, rfl, ⟨dx, hp⟩, hi, hl, hd, nm_low hz, hn, fun H1 k1 r1 d1 l1 => ?_⟩
  rw [S_wd]
  refine ⟨.str z, rfl, .str z, .str z, F0, rfl, .str z, nm_sh hz, fun H2 s2 => ⟨_, rfl, ?_⟩⟩
  rw [isN_nm hz]
  obtain ⟨dx1, hp1⟩ := r1
  exact iteF ⟨.str z, rfl, qq H2 (k1.trans (KeepR.of s2)) ⟨dx1, s2 _ _ hp1⟩ d1 l1⟩
theorem sc_take_value : FnScope ["self", "start", "digits", "text", "number"] ["self"] (defScope s_take_value) := ⟨rfl, rfl, rfl, by decide +kernel, rfl, by decide +kernel, by decide +kernel⟩
abbrev DG : Str := "0123456789"
theorem dg_mem {c : Nat} : isD c = true → c ∈ wd DG := fun h => by
  have h' : 48 ≤ c ∧ c ≤ 57 := by
    rw [Bool.and_eq_true, decide_eq_true_eq, decide_eq_true_eq] at h
    exact h
  have : c = 48 ∨ c = 49 ∨ c = 50 ∨ c = 51 ∨ c = 52 ∨ c = 53 ∨ c = 54 ∨ c = 55 ∨ c = 56 ∨ c = 57 := by omega
  rcases this with rfl | rfl | rfl | rfl | rfl | rfl | rfl | rfl | rfl | rfl <;> decide +kernel
def sp_tvalue (C : Addr) : Sp := fun vs H Q _ => ∃ (p : Addr) (l r : List Nat) (v : Int) (i : Nat), vs = [.ref p] ∧ RdAt C H p l i ∧ i ≤ l.length ∧ l.length ≤ 8000000 ∧ -(10 ^ 18) ≤ v ∧ v ≤ 10 ^ 18 ∧ l.drop i = num v ++ r ∧ nextIn DG r = false ∧
  ∀ H', KeepR p H H' → RdAt C H' p l (i + (num v).length) → l.drop (i + (num v).length) = r → i + (num v).length ≤ l.length → Q (.int v) H'
theorem ok_tvalue {f fn ft fw fv C : Addr} {fd dn dt dw dv : FuncData} {td tk : Tok} {k : Nat} (F : Fun K "take_value" "Reader.take_value" s_take_value f fd) (T : RC K C) (Gn : FnOk P w K mg base CX0 k fn dn ["self", "piece"] (sp_next C)) (mn : Meth K C "is_next" fn) (bn : Binds K dn ["self", "piece"] [])
    (Gt : FnOk P w K mg base CX0 k ft dt ["self", "piece"] (sp_take C)) (mt : Meth K C "take" ft) (bt : Binds K dt ["self", "piece"] [])
    (Gw : FnOk P w K mg base CX0 k fw dw ["self", "signs"] (sp_twhile C)) (mw : Meth K C "take_while" fw) (bw : Binds K dw ["self", "signs"] [])
    (Gv : FnOk P w K mg base CX0 k fv dv ["thing"] (sp_is K isV)) (gv : mg "is_value" = some (.ref fv)) (Kv : PySem.W.keepIn K (.ref fv) = true) (bv : Binds K dv ["thing"] [])
    (mD : mg "DIGITS" = some (.str DG td)) (mL : mg "LONGEST_VALUE" = some (.int 20 tk)) (mlen : mg "len" = none) (mint : mg "int" = none) (mstr : mg "str" = none) : FnOk P w K mg base CX0 (k + 1) f fd ["self"] (sp_tvalue C) := by
  have nd := sc_take_value.nd
  refine F.ok sc_take_value (fun vs H Q E h => ?_) (fun cdv A outer s H vs Q E hr h => ?_)
  · obtain ⟨p, l, r, v, i, rfl, _⟩ := h
    rfl
  obtain ⟨p, l, r, v, i, rfl, ⟨dx, hp⟩, hi, hl, h1, h2, hd, hn, qq⟩ := h
  refine ⟨_, (pss_cons (ps_set (i := 1) nd rfl (.inl rfl) (pe_fld (pv 0) rfl))
      (Evl.pss_cut (ps_if (pt_val (pe_meth (pv 0) T.cl mn Gn hr bn .nil pass0 (pa_cons pe_str pa_nil))) (pss_one (ps_expr (pe_meth (pv 0) T.cl mt Gt hr bt .nil pass0 (pa_cons pe_str pa_nil)))) pss_nil)
      (pss_cons (ps_set (i := 2) nd rfl (.inl rfl) (pe_meth (pv 0) T.cl mw Gw hr bw .nil pass0 (pa_cons (pe_glob rfl mD (v := .str DG) ⟨td, rfl⟩) pa_nil)))
      (pss_cons (ps_set (i := 3) nd rfl (.inl rfl) (pe_slice sl_str (pe_fld (pv 0) rfl) (po_some (pv 1)) (po_some (pe_fld (pv 0) rfl))))
      (pss_cons (ps_if (PW.pt (pw_or (pt_not (pt_truth (pv 2) (fun _ => rfl))) (pw_or1 (pt_cmpR op_gt (pe_callB call_len_str (by rfl) mlen PySem.boot_len (pa_cons (pv 3) pa_nil)) (pe_glob rfl mL (v := .int 20) ⟨tk, rfl⟩) (nomark _))))) (pss_one ps_never) pss_nil)
      (pss_cons (ps_set (i := 4) nd rfl (.inl rfl) (pe_callTy call_int_str (by rfl) mint boot_int (pa_cons (pv 3) pa_nil)))
      (pss_cons (ps_if (PW.pt (pw_or (pt_cmpR op_ne (pe_callTy call_str_int (by rfl) mstr boot_str (pa_cons (pv 4) pa_nil)) (pv 3) (nomark _)) (pw_or1 (pt_not (pt_val (pe_call Gv hr (by rfl) gv Kv bv .nil pass0 (pa_cons (pv 4) pa_nil))))))) (pss_one ps_never) pss_nil)
      (pss_one (ps_ret (pv 4)))))))))), ?_⟩
  have no := fun (m : Str) (g1 : ¬ m = "place") (g2 : ¬ m = "text") => fl_no (S l) i g1 g2
  obtain ⟨ng, ds, hnum, hne, hds⟩ := num_form v
  obtain ⟨dA, lA⟩ := drop_on hd hi
  refine ⟨.ref p, rfl, p, C, dx, _, _, rfl, hp, T.cl, T.nP, fl_place _ _, ?_⟩
  -- the sign
  refine ⟨fun σ' H' => ∃ j, σ' = [some (.ref p), some (.int (i : Int)), none, none, none] ∧ KeepR p H H' ∧ RdAt C H' p l j ∧ l.drop j = ds ++ r ∧ i ≤ j ∧ j ≤ l.length ∧ j + ds.length = i + (num v).length, ?_, ?_⟩
  · refine ⟨.ref p, rfl, p, dx, _, rfl, hp, fl_no _ _ (by decide +kernel) (by decide +kernel), p, l, [45], i, rfl, ⟨dx, hp⟩, hi, _, rfl, ?_⟩
    rw [hd, hnum]
    cases ng with
    | true =>
      have e : (if true = true then [45] else []) ++ ds ++ r = [45] ++ (ds ++ r) := rfl
      rw [e, pre_app]
      refine iteT ⟨.ref p, rfl, p, dx, _, rfl, hp, fl_no _ _ (by decide +kernel) (by decide +kernel), p, l, [45], ds ++ r, i, rfl, ⟨dx, hp⟩, hi, by rw [hd, hnum]; rfl, hl, fun H1 k1 r1 d1 l1 => ⟨i + 1, rfl, k1, r1, d1, by omega, l1, ?_⟩⟩
      show i + 1 + ds.length = i + ([45] ++ ds).length
      rw [List.length_append, List.length_singleton]
      omega
    | false =>
      cases ds with
      | nil => exact absurd rfl hne
      | cons c ds =>
        have hc : isD c = true := by
          rw [List.all_cons, Bool.and_eq_true] at hds
          exact hds.1
        have e : ([45] : List Nat).isPrefixOf ((if false = true then [45] else []) ++ c :: ds ++ r) = false := by
          show ((45 == c) && true) = false
          rw [Bool.and_true]
          cases h45 : (45 == c) with
          | false => rfl
          | true =>
            have : c = 45 := (eq_of_beq h45).symm
            subst this
            exact absurd hc (by decide)
        rw [e]
        exact iteF ⟨i, rfl, KeepR.refl, ⟨dx, hp⟩, by rw [hd, hnum]; rfl, Nat.le_refl _, hi, rfl⟩
  rintro σ1 H1 ⟨j, rfl, k1, ⟨dx1, hp1⟩, hdj, hij, hjl, hje⟩
  refine ⟨.ref p, rfl, p, dx1, _, rfl, hp1, fl_no _ _ (by decide +kernel) (by decide +kernel), p, l, ds, r, DG, j, rfl, ⟨dx1, hp1⟩, hjl, hl, hdj, fun c hc => dg_mem (List.all_eq_true.mp hds c hc), hn, fun H2 k2 r2 d2 l2 => ?_⟩
  obtain ⟨dx2, hp2⟩ := r2
  rw [hje] at hp2 d2 l2
  refine ⟨.ref p, rfl, p, C, dx2, _, _, rfl, hp2, T.cl, T.nT, fl_text _ _, .int (i : Int), rfl, (i : Int), rfl, .ref p, rfl, p, C, dx2, _, _, rfl, hp2, T.cl, T.nP, fl_place _ _, ((i + (num v).length : Nat) : Int), rfl, S l, rfl, by rw [S_len, sizeLine_eq]; omega, ?_⟩
  rw [cut_at' (by omega) l2, hd, Nat.add_sub_cancel_left, List.take_left]
  have hnl := num_len h1 h2
  have hdl : 1 ≤ ds.length := List.length_pos_iff.mpr hne
  have hdl2 : ds.length ≤ 20 := by
    have := congrArg List.length hnum
    rw [List.length_append] at this
    omega
  refine ⟨.str (S ds), rfl, true, ⟨by rw [S_len, sizeLine_eq]; omega, ?_⟩, ?_⟩
  · rw [S_len]
    symm
    rw [bne_iff_ne]
    omega
  refine iteF ⟨.str (S (num v)), rfl, S (num v), rfl, by rw [S_len, sizeLine_eq]; omega, ((S (num v)).length : Int), 20, rfl, rfl, _, rfl, ?_⟩
  rw [decide_eq_false (show ¬ (20 : Int) < ((S (num v)).length : Int) by rw [S_len]; omega)]
  refine iteF ⟨.str (S (num v)), rfl, S (num v), v, rfl, num_read h1 h2, by rw [S_len]; omega, .int v, rfl, v, rfl, ?_, ?_⟩
  · by_cases e0 : v.natAbs = 0
    · rw [e0]; decide
    · exact (Nat.log2_lt e0).mpr (Nat.lt_of_le_of_lt (show v.natAbs ≤ 10 ^ 18 by omega) (Nat.lt_of_lt_of_le (show 10 ^ 18 < 2 ^ 60 by decide) (Nat.pow_le_pow_right (by decide) (by decide))))
  refine ⟨.str (S (num v)), rfl, rfl, _, rfl, ?_⟩
  rw [show PySem.Str.ofString (toString v) = S (num v) from str_num v, show (!decide (V.str (S (num v)) = V.str (S (num v)))) = false by rw [decide_eq_true rfl]; rfl]
  refine iteF ⟨.int v, rfl, .int v, .int v, F0, rfl, .int v, _, rfl, ?_⟩
  rw [isV_ok h1 h2]
  exact iteF ⟨.int v, rfl, qq H2 (k1.trans k2) ⟨dx2, hp2⟩ d2 l2⟩
theorem sc_take_end : FnScope ["self"] ["self"] (defScope s_take_end) := ⟨rfl, rfl, rfl, by decide +kernel, rfl, by decide +kernel, by decide +kernel⟩
def sp_tend (C : Addr) : Sp := fun vs H Q _ => ∃ (p : Addr) (l : List Nat), vs = [.ref p] ∧ RdAt C H p l l.length ∧ l.length ≤ 8000000 ∧ Q .non H
theorem ok_tend {f C : Addr} {fd : FuncData} {k : Nat} (F : Fun K "take_end" "Reader.take_end" s_take_end f fd) (T : RC K C) (mlen : mg "len" = none) : FnOk P w K mg base CX0 (k + 1) f fd ["self"] (sp_tend C) := by
  refine F.ok sc_take_end (fun vs H Q E h => ?_) (fun cdv A outer s H vs Q E hr h => ?_)
  · obtain ⟨p, l, rfl, _⟩ := h
    rfl
  obtain ⟨p, l, rfl, ⟨dx, hp⟩, hl, qq⟩ := h
  refine ⟨_, (pss_one (ps_if (pt_cmpR op_ne (pe_fld (pv 0) rfl) (pe_callB call_len_str (by rfl) mlen PySem.boot_len (pa_cons (pe_fld (pv 0) rfl) pa_nil)) (nomark _)) (pss_one ps_never) pss_nil)), ?_⟩
  refine ⟨_, rfl, p, C, dx, _, _, rfl, hp, T.cl, T.nP, fl_place _ _, _, rfl, p, C, dx, _, _, rfl, hp, T.cl, T.nT, fl_text _ _, S l, rfl, by rw [S_len, sizeLine_eq]; omega, rfl, _, rfl, ?_⟩
  rw [S_len, show (!decide (V.int (l.length : Int) = V.int (l.length : Int))) = false by rw [decide_eq_true rfl]; rfl]
  exact iteF qq
end
end L10

/-! the texts of expressions are shown -/
namespace L10
open PySem PySem.Spec PyProof.Rows L2 GR AD RZ WX ZE TX RVT
open SX (S S_cat S_len S_inj)
open _root_.StX (pa_star)
theorem kf0 {H H' : Hp} (k : KeepT H H') : KeepO F0 H H' := ⟨k.1, k.2, fun _ _ h => h.elim⟩
/-! pieces -/
inductive Pc : PyData → List Nat → Prop
  | str (z : Str) : Pc (.str z) (wd z)
  | ex (n : Nat) (d : PyData) (l : List Nat) : Tx n d l → Pc d l
inductive PcL : List PyData → List Nat → Prop
  | nil : PcL [] []
  | cons {x : PyData} {xs : List PyData} {l m : List Nat} : Pc x l → PcL xs m → PcL (x :: xs) (l ++ m)
theorem PcL.app : ∀ {xs ys : List PyData} {l m : List Nat}, PcL xs l → PcL ys m → PcL (xs ++ ys) (l ++ m)
  | _, _, _, _, .nil, h => h
  | _, _, _, _, .cons a t, h => by rw [List.cons_append, List.append_assoc]; exact .cons a (t.app h)
theorem PcL.one {x : PyData} {l : List Nat} (h : Pc x l) : PcL [x] l := by
  have := PcL.cons h .nil
  rwa [List.append_nil] at this
theorem PcL.snoc {xs : List PyData} {x : PyData} {m : List Nat} : PcL (xs ++ [x]) m → ∃ l1 l2, m = l1 ++ l2 ∧ PcL xs l1 ∧ Pc x l2 := by
  induction xs generalizing m with
  | nil =>
    intro h
    cases h with
    | cons a t =>
      cases t
      exact ⟨[], _, by rw [List.append_nil]; rfl, .nil, a⟩
  | cons y ys ih =>
    intro h
    cases h with
    | cons a t =>
      obtain ⟨l1, l2, rfl, h1, h2⟩ := ih t
      exact ⟨_ ++ l1, l2, by rw [List.append_assoc], .cons a h1, h2⟩
/-- how much is to be done -/
def ms : PyData → Nat
  | .tuple ds => 8 * sz (.tuple ds)
  | _ => 1
def mss (ds : List PyData) : Nat := (ds.map ms).sum
theorem mss_app (xs ys : List PyData) : mss (xs ++ ys) = mss xs + mss ys := by
  unfold mss
  rw [List.map_append, List.sum_append]
theorem mss_one (x : PyData) : mss [x] = ms x := by
  unfold mss
  rw [List.map_cons, List.map_nil, List.sum_cons, List.sum_nil, Nat.add_zero]
theorem mss_cons (x : PyData) (xs : List PyData) : mss (x :: xs) = ms x + mss xs := by
  unfold mss
  rw [List.map_cons, List.sum_cons]
theorem ms_le (x : PyData) : 1 ≤ ms x ∧ ms x ≤ 8 * sz x := by
  have := sz_pos x
  unfold ms
  split <;> omega
theorem mss_len : ∀ xs : List PyData, xs.length ≤ mss xs
  | [] => Nat.zero_le _
  | x :: xs => by
    have := mss_len xs
    have := (ms_le x).1
    rw [mss_cons, List.length_cons]
    omega
theorem mss_le : ∀ xs : List PyData, mss xs ≤ 8 * szs xs
  | [] => Nat.zero_le _
  | x :: xs => by
    have := mss_le xs
    have := (ms_le x).2
    rw [mss_cons, szs]
    omega
theorem mss_rev : ∀ xs : List PyData, mss xs.reverse = mss xs
  | [] => rfl
  | x :: xs => by rw [List.reverse_cons, mss_app, mss_rev xs, mss_one, mss_cons, Nat.add_comm]
/-- with commas between -/
def wcV (u : V) (us : List V) : List V := u :: us.flatMap fun v => [.str ", ", v]
def wcD (x : PyData) (xs : List PyData) : List PyData := x :: xs.flatMap fun y => [.str ", ", y]
theorem wc_dd {K : PySem.W.Frag} {ok : Addr → Prop} {H : Hp} {u : V} {x : PyData} (hu : Dd K ok H u x) : ∀ {us : List V} {xs : List PyData}, DdAll K ok H us xs → DdAll K ok H (us.flatMap fun v => [.str ", ", v]) (xs.flatMap fun y => [.str ", ", y])
  | _, _, .nil => .nil
  | _, _, .cons a t => by
    rw [List.flatMap_cons, List.flatMap_cons]
    exact .cons (.str _) (.cons a (wc_dd hu t))
theorem wc_mss (x : PyData) (xs : List PyData) : mss (wcD x xs) = ms x + mss xs + xs.length := by
  unfold wcD
  rw [mss_cons]
  have : ∀ ys : List PyData, mss (ys.flatMap fun y => [.str ", ", y]) = mss ys + ys.length := fun ys => by
    induction ys with
    | nil => rfl
    | cons y ys ih =>
      rw [List.flatMap_cons, mss_app, ih, mss_cons, mss_one, mss_cons, List.length_cons]
      show 1 + ms y + _ = _
      omega
  rw [this]
  omega
theorem wc_pc : ∀ {xs : List PyData} {ls : List (List Nat)} {x : PyData} {l : List Nat}, Pc x l → xs.length = ls.length → (∀ p, p ∈ xs.zip ls → Pc p.1 p.2) → PcL (wcD x xs) (commas (l :: ls))
  | [], [], x, l, h, _, _ => PcL.one h
  | [], _ :: _, _, _, _, h, _ => by cases h
  | _ :: _, [], _, _, _, h, _ => by cases h
  | y :: ys, m :: ms', x, l, h, hl, ha => by
    have ih := wc_pc (xs := ys) (ls := ms') (ha (y, m) (by rw [List.zip_cons_cons]; exact List.mem_cons_self)) (by simpa using hl) fun p hp => ha p (by rw [List.zip_cons_cons]; exact List.mem_cons_of_mem _ hp)
    show PcL (x :: (.str ", " :: wcD y ys)) (l ++ ([44, 32] ++ commas (m :: ms')))
    exact .cons h (.cons (.str ", ") ih)
theorem wc_len (u : V) (us : List V) : (wcV u us).length = 1 + 2 * us.length := by
  unfold wcV
  rw [List.length_cons]
  have : ∀ vs : List V, (vs.flatMap fun v => [V.str ", ", v]).length = 2 * vs.length := fun vs => by
    induction vs with
    | nil => rfl
    | cons v vs ih => rw [List.flatMap_cons, List.length_append, ih, List.length_cons, List.length_cons]; simp; omega
  rw [this]
  omega
theorem cut_1 {x : V} {r : List V} : cutV (x :: r) (some 1) none = r := by
  unfold cutV
  rw [HT.sIx_none, show HT.sIx (x :: r).length 0 (some 1) = min 1 (x :: r).length from HT.sIx_nat _ _ 1, List.length_cons, show min 1 (r.length + 1) = 1 by omega, List.drop_succ_cons, List.drop_zero, show r.length + 1 - 1 = r.length by omega, List.take_length]
theorem no_1 {x : V} {r : List V} : ¬ (HT.sIx (x :: r).length 0 (some 1) = 0 ∧ HT.sIx (x :: r).length (x :: r).length none = (x :: r).length) := fun h => by
  have := h.1
  rw [show (some (1 : Int)) = some ((1 : Nat) : Int) from rfl, HT.sIx_nat, List.length_cons] at this
  omega
theorem cut_4 {x y z u : V} {r : List V} : cutV (x :: y :: z :: u :: r) (some 4) none = r := by
  unfold cutV
  rw [HT.sIx_none, show HT.sIx (x :: y :: z :: u :: r).length 0 (some 4) = min 4 (x :: y :: z :: u :: r).length from HT.sIx_nat _ _ 4, List.length_cons, List.length_cons, List.length_cons, List.length_cons, show min 4 (r.length + 1 + 1 + 1 + 1) = 4 by omega]
  show r.take (r.length + 4 - 4) = r
  rw [Nat.add_sub_cancel, List.take_length]
theorem no_4 {x y z u : V} {r : List V} : ¬ (HT.sIx (x :: y :: z :: u :: r).length 0 (some 4) = 0 ∧ HT.sIx (x :: y :: z :: u :: r).length (x :: y :: z :: u :: r).length none = (x :: y :: z :: u :: r).length) := fun h => by
  have := h.1
  rw [show (some (4 : Int)) = some ((4 : Nat) : Int) from rfl, HT.sIx_nat, List.length_cons, List.length_cons, List.length_cons, List.length_cons] at this
  omega
section
variable {P : Program} {w : World} {K : PySem.W.Frag} {mg : Str → Option Value} {base : Heap}
abbrev s_with_commas : Stmt := topS 42
theorem sc_with_commas : FnScope ["pieces", "found", "piece"] ["pieces"] (defScope s_with_commas) := ⟨rfl, rfl, rfl, by decide +kernel, rfl, by decide +kernel, by decide +kernel⟩
def sp_wcL (K : PySem.W.Frag) : Sp := fun vs H Q _ => ∃ (a : Addr) (u : V) (us : List V), vs = [.ref a] ∧ SqL K H a (u :: us) ∧ us.length ≤ 400 ∧ ∀ H' L, Same H H' → H L = none → H' L = some (.lst (wcV u us)) → Q (.ref L) H'
theorem ok_wcL {f : Addr} {fd : FuncData} {k : Nat} (F : Fun K "with_commas" "with_commas" s_with_commas f fd) : FnOk P w K mg base CX0 (k + 1) f fd ["pieces"] (sp_wcL K) := by
  have nd := sc_with_commas.nd
  refine F.ok sc_with_commas (fun vs H Q E h => ?_) (fun cdv A outer s H vs Q E hr h => ?_)
  · obtain ⟨a, u, us, rfl, _⟩ := h
    rfl
  obtain ⟨a, u, us, rfl, hS, hl, q⟩ := h
  refine ⟨_, (pss_cons (ps_set (i := 1) nd rfl (.inl rfl) (pe_lst (pa_cons (pe_ix ix_list (pv 0) pe_int (fun _ _ => rfl)) pa_nil)))
      (pss_cons (ps_for PassesOwn.never rfl (pi_list (pe_slice sl_list (pv 0) (po_some pe_int) po_none)) (pg_name (i := 2) nd rfl (Or.inl rfl))
      (pss_cons (ps_expr (pe_bm PySem.F.plainAttrs_list PySem.F.slot_list_append PySem.F.type_list_append mt_append (pv 1) (pa_cons pe_str pa_nil)))
        (pss_one (ps_expr (pe_bm PySem.F.plainAttrs_list PySem.F.slot_list_append PySem.F.type_list_append mt_append (pv 1) (pa_cons (pv 2) pa_nil))))))
      (pss_one (ps_ret (pv 1))))), ?_⟩
  refine ⟨.ref a, rfl, a, _, 0, u, rfl, rfl, hS, at0, small_le (Nat.le_of_ble_eq_true rfl), fun L nL => ?_⟩
  have s1 := same_upd (o := .lst [u]) nL
  refine ⟨.ref a, rfl, 1, rfl, a, _, rfl, s1.seq hS, fun c nc => ?_⟩
  rw [cut_1]
  have s2 := same_upd (o := .lst us) nc
  have hL : upd (upd H L (.lst [u])) c (.lst us) L = some (.lst [u]) := s2 _ _ upd_same
  have hc : upd (upd H L (.lst [u])) c (.lst us) c = some (.lst us) := upd_same
  have hcL : c ≠ L := (ne_of_none (show upd H L (.lst [u]) L = some (.lst [u]) from upd_same) nc).symm
  have s12 := s1.trans s2
  revert hL hc s12
  generalize upd (upd H L (.lst [u])) c (.lst us) = H2
  intro hL hc s12
  refine ⟨c, rfl, ⟨_, .inl (.inl hc)⟩, ?_⟩
  refine for_it (walk_list (xs := us)) (fun j σ H' => ∃ y, σ = [some (.ref a), some (.ref L), y] ∧ H' L = some (.lst (wcV u (us.take j))) ∧ ∀ b o, b ≠ L → H2 b = some o → H' b = some o) ⟨none, rfl, hL, fun b o _ e => e⟩ ?_ ?_ ?_
  · rintro j σ H' _ ⟨y, rfl, _, kk⟩
    exact .inl (.inl (kk _ _ hcL hc))
  · rintro j x σ H0' H' hj ⟨y, rfl, hL', kk⟩ ⟨rfl, hx⟩
    refine ⟨.ref L, rfl, .inl ⟨rfl, _, .inl (.inl hL')⟩, L, _, .str ", ", rfl, rfl, hL', ?_, ?_⟩
    · rw [wc_len, List.length_take]
      exact small1000 (by omega)
    refine ⟨.ref L, rfl, .inl ⟨rfl, _, .inl (.inl upd_same)⟩, x, rfl, L, _, x, rfl, rfl, upd_same, ?_, _, rfl, ?_, fun b o hb e => ?_⟩
    · rw [List.length_append, wc_len, List.length_take]
      exact small1000 (by simp; omega)
    · rw [upd_same, take_at hx]
      unfold wcV
      rw [List.flatMap_append, List.flatMap_cons, List.flatMap_nil, List.append_nil, List.cons_append, List.cons_append, List.append_assoc]
      rfl
    · rw [upd_ne hb, upd_ne hb]
      exact kk b o hb e
  · rintro σ H' ⟨y, rfl, hL', kk⟩
    rw [List.take_length] at hL'
    exact ⟨.ref L, rfl, q H' L (fun b o e => kk b o (ne_of_none e nL) (s12 _ _ e)) nL hL'⟩
def sp_wcT (K : PySem.W.Frag) : Sp := fun vs H Q _ => ∃ (a : Addr) (u : V) (us : List V), vs = [.ref a] ∧ SqT K H a (u :: us) ∧ us.length ≤ 400 ∧ ∀ H' L, Same H H' → H L = none → H' L = some (.lst (wcV u us)) → Q (.ref L) H'
theorem ok_wcT {f : Addr} {fd : FuncData} {k : Nat} (F : Fun K "with_commas" "with_commas" s_with_commas f fd) : FnOk P w K mg base CX0 (k + 1) f fd ["pieces"] (sp_wcT K) := by
  have nd := sc_with_commas.nd
  refine F.ok sc_with_commas (fun vs H Q E h => ?_) (fun cdv A outer s H vs Q E hr h => ?_)
  · obtain ⟨a, u, us, rfl, _⟩ := h
    rfl
  obtain ⟨a, u, us, rfl, hS, hl, q⟩ := h
  refine ⟨_, (pss_cons (ps_set (i := 1) nd rfl (.inl rfl) (pe_lst (pa_cons (pe_ix ix_tup (pv 0) pe_int (fun _ _ => rfl)) pa_nil)))
      (pss_cons (ps_for PassesOwn.never rfl (pi_tup (pe_slice L2.sl_tup (pv 0) (po_some pe_int) po_none)) (pg_name (i := 2) nd rfl (Or.inl rfl))
      (pss_cons (ps_expr (pe_bm PySem.F.plainAttrs_list PySem.F.slot_list_append PySem.F.type_list_append mt_append (pv 1) (pa_cons pe_str pa_nil)))
        (pss_one (ps_expr (pe_bm PySem.F.plainAttrs_list PySem.F.slot_list_append PySem.F.type_list_append mt_append (pv 1) (pa_cons (pv 2) pa_nil))))))
      (pss_one (ps_ret (pv 1))))), ?_⟩
  refine ⟨.ref a, rfl, a, _, 0, u, rfl, rfl, hS, at0, small_le (Nat.le_of_ble_eq_true rfl), fun L nL => ?_⟩
  have s1 := same_upd (o := .lst [u]) nL
  refine ⟨.ref a, rfl, 1, rfl, a, _, rfl, (KeepT.of s1).seqt hS, no_1, fun c nc => ?_⟩
  rw [cut_1]
  have s2 := same_upd (o := .tup us) nc
  have hL : upd (upd H L (.lst [u])) c (.tup us) L = some (.lst [u]) := s2 _ _ upd_same
  have hc : upd (upd H L (.lst [u])) c (.tup us) c = some (.tup us) := upd_same
  have hcL : c ≠ L := (ne_of_none (show upd H L (.lst [u]) L = some (.lst [u]) from upd_same) nc).symm
  have s12 := s1.trans s2
  revert hL hc s12
  generalize upd (upd H L (.lst [u])) c (.tup us) = H2
  intro hL hc s12
  refine ⟨c, rfl, ⟨_, .inl (.inl hc)⟩, ?_⟩
  refine for_it (walk_tup (xs := us)) (fun j σ H' => ∃ y, σ = [some (.ref a), some (.ref L), y] ∧ H' L = some (.lst (wcV u (us.take j))) ∧ ∀ b o, b ≠ L → H2 b = some o → H' b = some o) ⟨none, rfl, hL, fun b o _ e => e⟩ ?_ ?_ ?_
  · rintro j σ H' _ ⟨y, rfl, _, kk⟩
    exact .inl (.inl (kk _ _ hcL hc))
  · rintro j x σ H0' H' hj ⟨y, rfl, hL', kk⟩ ⟨rfl, hx⟩
    refine ⟨.ref L, rfl, .inl ⟨rfl, _, .inl (.inl hL')⟩, L, _, .str ", ", rfl, rfl, hL', ?_, ?_⟩
    · rw [wc_len, List.length_take]
      exact small1000 (by omega)
    refine ⟨.ref L, rfl, .inl ⟨rfl, _, .inl (.inl upd_same)⟩, x, rfl, L, _, x, rfl, rfl, upd_same, ?_, _, rfl, ?_, fun b o hb e => ?_⟩
    · rw [List.length_append, wc_len, List.length_take]
      exact small1000 (by simp; omega)
    · rw [upd_same, take_at hx]
      unfold wcV
      rw [List.flatMap_append, List.flatMap_cons, List.flatMap_nil, List.append_nil, List.cons_append, List.cons_append, List.append_assoc]
      rfl
    · rw [upd_ne hb, upd_ne hb]
      exact kk b o hb e
  · rintro σ H' ⟨y, rfl, hL', kk⟩
    rw [List.take_length] at hL'
    exact ⟨.ref L, rfl, q H' L (fun b o e => kk b o (ne_of_none e nL) (s12 _ _ e)) nL hL'⟩
abbrev s_pieces_of : Stmt := topS 41
theorem sc_pieces_of : FnScope ["expression", "word"] ["expression"] (defScope s_pieces_of) := ⟨rfl, rfl, rfl, by decide +kernel, rfl, by decide +kernel, by decide +kernel⟩
def sp_pieces (K : PySem.W.Frag) : Sp := fun vs H Q _ => ∃ (v : V) (n : Nat) (d : PyData) (l : List Nat), vs = [v] ∧ Dd K F0 H v d ∧ Tx n d l ∧ ∀ H' L us ps, Same H H' → H L = none → H' L = some (.lst us) → DdAll K F0 H' us ps → PcL ps l → mss ps < ms d → Q (.ref L) H'
theorem ok_pieces {f fl ft aO aG : Addr} {fd dl dt : FuncData} {k : Nat} (F : Fun K "pieces_of" "pieces_of" s_pieces_of f fd) (Gl : FnOk P w K mg base CX0 k fl dl ["pieces"] (sp_wcL K)) (Gt : FnOk P w K mg base CX0 k fl dl ["pieces"] (sp_wcT K)) (gl : mg "with_commas" = some (.ref fl)) (Kl : PySem.W.keepIn K (.ref fl) = true) (bl : Binds K dl ["pieces"] [])
    (mO : mg "OPERATIONS" = some (.ref aO)) (TO : KTx K aO ops5) (mG : mg "AGGREGATES" = some (.ref aG)) (TG : KTx K aG aggW) (mstr : mg "str" = none) : FnOk P w K mg base CX0 (k + 1) f fd ["expression"] (sp_pieces K) := by
  have nd := sc_pieces_of.nd
  refine F.ok sc_pieces_of (fun vs H Q E h => ?_) (fun cdv A outer s H vs Q E hr h => ?_)
  · obtain ⟨v, n, d, l, rfl, _⟩ := h
    rfl
  obtain ⟨v, n, d, l, rfl, hd, ht, q⟩ := h
  refine ⟨_, (pss_cons (ps_set (i := 1) nd rfl (.inl rfl) (pe_ix ix_tup (pv 0) pe_int (fun _ _ => rfl)))
      (pss_cons (ps_if (pt_cmpR op_eq (pv 1) pe_str (nomark _))
      (pss_one (ps_ret (pe_lst (pa_cons pe_str pa_nil))))
      pss_nil)
      (pss_cons (ps_if (pt_cmpR op_eq (pv 1) pe_str (nomark _))
      (pss_one (ps_ret (pe_lst (pa_cons (pe_callTy call_str_int (by rfl) mstr boot_str (pa_cons (pe_ix ix_tup (pv 0) pe_int (fun _ _ => rfl)) pa_nil)) pa_nil))))
      pss_nil)
      (pss_cons (ps_if (pt_cmpR op_eq (pv 1) pe_str (nomark _))
      (pss_one (ps_ret (pe_lst (pa_cons (pe_ix ix_tup (pv 0) pe_int (fun _ _ => rfl)) pa_nil))))
      pss_nil)
      (pss_cons (ps_if (pt_cmpR op_eq (pv 1) pe_str (nomark _))
      (pss_one (ps_ret (pe_lst (pa_cons (pe_ix ix_tup (pv 0) pe_int (fun _ _ => rfl)) (pa_cons pe_str (pa_cons (pe_ix ix_tup (pv 0) pe_int (fun _ _ => rfl)) (pa_cons pe_str (pa_cons (pe_ix ix_tup (pv 0) pe_int (fun _ _ => rfl)) pa_nil))))))))
      pss_nil)
      (pss_cons (ps_if (pt_cmpR op_in_seq (pv 1) (pe_glob (v := .ref aO) rfl mO rfl) (by rfl))
      (pss_one (ps_ret (pe_lst (pa_cons pe_str (pa_cons (pe_ix ix_tup (pv 0) pe_int (fun _ _ => rfl)) (pa_cons (pe_joined (.cons pe_str (.cons (pe_fmt (pv 1)) (.cons pe_str .nil)))) (pa_cons (pe_ix ix_tup (pv 0) pe_int (fun _ _ => rfl)) (pa_cons pe_str pa_nil))))))))
      pss_nil)
      (pss_cons (ps_if (pt_cmpR op_in_seq (pv 1) (pe_glob (v := .ref aG) rfl mG rfl) (by rfl))
      (pss_one (ps_ret (pe_lst (pa_cons (pv 1) (pa_cons pe_str (pa_star (pe_call Gl hr (by rfl) gl Kl bl .nil pass0 (pa_cons (pe_lst (pa_cons (pe_ix ix_tup (pv 0) pe_int (fun _ _ => rfl)) (pa_star (pe_slice L2.sl_tup (pv 0) (po_some pe_int) po_none) pa_nil))) pa_nil)) (pa_cons pe_str pa_nil)))))))
      pss_nil)
      (pss_one (ps_ret (pe_lst (pa_cons (pv 1) (pa_cons pe_str (pa_star (pe_call Gt hr (by rfl) gl Kl bl .nil pass0 (pa_cons (pe_slice L2.sl_tup (pv 0) (po_some pe_int) po_none) pa_nil)) (pa_cons pe_str pa_nil)))))))))))))), ?_⟩
  -- the end: one list of these
  have fin : ∀ (H' : Hp) (L : Addr) (us : List V) (ps : List PyData), Same H H' → H' L = none → DdAll K F0 H' us ps → PcL ps l → mss ps < ms d → Q (.ref L) (upd H' L (.lst us)) := fun H' L us ps s' n' hd' hp hm => by
    have sL := same_upd (o := .lst us) n'
    exact q _ L us ps (s'.trans sL) (s'.free n') upd_same (hd'.keep (KeepO.of sL)) hp hm
  have s0 : Same H H := fun _ _ e => e
  have b1 : 1 ≤ sizeLine := small_le (by decide)
  have b5 : 5 ≤ sizeLine := small_le (by decide)
  have tst : ∀ {w x : Str} {A B : Prop}, w ≠ x → B → (if decide (V.str w = V.str x) = true then A else B) := fun hne hB => by
    rw [decide_eq_false (fun e => hne (by injection e))]
    exact iteF hB
  have tyes : ∀ {w : Str} {A B : Prop}, A → (if decide (V.str w = V.str w) = true then A else B) := fun hA => by
    rw [decide_eq_true rfl]
    exact iteT hA
  cases ht with
  | int n i h1 h2 =>
    obtain ⟨a, xs, rfl, hS, hA⟩ := L10.Dd.tup_inv hd
    rcases hA with _ | ⟨g1, hA⟩; cases g1; rcases hA with _ | ⟨g2, hA⟩; cases g2; cases hA
    refine ⟨.ref a, rfl, a, _, 0, .str "int", rfl, rfl, hS, at0, .str "int", rfl, rfl, _, rfl, tst (by decide) ⟨.str "int", rfl, rfl, _, rfl, tyes ⟨.ref a, rfl, a, _, 1, .int i, rfl, rfl, hS, atI_nat (j := 1) rfl, i, rfl, ?_, b1, fun L nL => ?_⟩⟩⟩
    · by_cases e0 : i.natAbs = 0
      · rw [e0]; decide
      · exact (Nat.log2_lt e0).mpr (Nat.lt_of_le_of_lt (show i.natAbs ≤ 10 ^ 18 by omega) (Nat.lt_of_lt_of_le (show 10 ^ 18 < 2 ^ 60 by decide) (Nat.pow_le_pow_right (by decide) (by decide))))
    · rw [show PySem.Str.ofString (toString i) = S (num i) from str_num i]
      exact fin H L _ [.str (S (num i))] s0 nL (.cons (.str _) .nil) (PcL.one (.str (S (num i)))) (by rw [mss_one]; show 1 < 8 * sz _; rw [sz]; omega)
  | key n =>
    obtain ⟨a, xs, rfl, hS, hA⟩ := L10.Dd.tup_inv hd
    rcases hA with _ | ⟨g1, hA⟩; cases g1; cases hA
    refine ⟨.ref a, rfl, a, _, 0, .str "key", rfl, rfl, hS, at0, .str "key", rfl, rfl, _, rfl, tyes ⟨b1, fun L nL => ?_⟩⟩
    exact fin H L _ [.str "key"] s0 nL (.cons (.str _) .nil) (PcL.one (.str "key")) (by rw [mss_one]; show 1 < 8 * sz _; rw [sz]; omega)
  | var n z hz =>
    obtain ⟨a, xs, rfl, hS, hA⟩ := L10.Dd.tup_inv hd
    rcases hA with _ | ⟨g1, hA⟩; cases g1; rcases hA with _ | ⟨g2, hA⟩; cases g2; cases hA
    refine ⟨.ref a, rfl, a, _, 0, .str "var", rfl, rfl, hS, at0, .str "var", rfl, rfl, _, rfl, tst (by decide) ⟨.str "var", rfl, rfl, _, rfl, tst (by decide) ⟨.str "var", rfl, rfl, _, rfl, tyes ⟨.ref a, rfl, a, _, 1, .str z, rfl, rfl, hS, atI_nat (j := 1) rfl, b1, fun L nL => ?_⟩⟩⟩⟩
    exact fin H L _ [.str z] s0 nL (.cons (.str _) .nil) (PcL.one (.str z)) (by rw [mss_one]; show 1 < 8 * sz _; rw [sz]; omega)
  | cell n t c x l1 h1 h2 hx =>
    obtain ⟨a, xs, rfl, hS, hA⟩ := L10.Dd.tup_inv hd
    rcases hA with _ | ⟨g1, hA⟩; cases g1; rcases hA with _ | ⟨g2, hA⟩; cases g2; rcases hA with _ | ⟨g3, hA⟩; rcases hA with _ | ⟨g4, hA⟩; cases g4; cases hA
    rename_i ux
    refine ⟨.ref a, rfl, a, _, 0, .str "cell", rfl, rfl, hS, at0, .str "cell", rfl, rfl, _, rfl, tst (by decide) ⟨.str "cell", rfl, rfl, _, rfl, tst (by decide) ⟨.str "cell", rfl, rfl, _, rfl, tst (by decide) ⟨.str "cell", rfl, rfl, _, rfl, tyes ⟨.ref a, rfl, a, _, 1, .str t, rfl, rfl, hS, atI_nat (j := 1) rfl, .ref a, rfl, a, _, 2, ux, rfl, rfl, hS, atI_nat (j := 2) rfl, .ref a, rfl, a, _, 3, .str c, rfl, rfl, hS, atI_nat (j := 3) rfl, b5, fun L nL => ?_⟩⟩⟩⟩⟩
    refine fin H L _ [.str t, .str "[", x, .str "].", .str c] s0 nL (.cons (.str _) (.cons (.str _) (.cons g3 (.cons (.str _) (.cons (.str _) .nil))))) ?_ ?_
    · exact .cons (.str t) (.cons (.str "[") (.cons (.ex n x l1 hx) (.cons (.str "].") (PcL.one (.str c)))))
    · have := (ms_le x).2
      rw [mss_cons, mss_cons, mss_cons, mss_cons, mss_one]
      show 1 + (1 + (ms x + (1 + 1))) < 8 * sz _
      rw [sz, szs, szs, szs, szs, szs]
      omega
  | op n o x y l1 l2 ho hx hy =>
    obtain ⟨a, xs, rfl, hS, hA⟩ := L10.Dd.tup_inv hd
    rcases hA with _ | ⟨g1, hA⟩; cases g1; rcases hA with _ | ⟨g2, hA⟩; rcases hA with _ | ⟨g3, hA⟩; cases hA
    rename_i ux uy
    have hno : o ≠ "key" ∧ o ≠ "int" ∧ o ≠ "var" ∧ o ≠ "cell" ∧ o.length ≤ 1 ∧ (Str.empty ++ " " ++ o).length ≤ sizeLine ∧ (Str.empty ++ " " ++ o ++ " ").length ≤ sizeLine ∧ wd (Str.empty ++ " " ++ o ++ " ") = 32 :: (wd o ++ [32]) := by
      simp only [ops5, List.mem_cons, List.not_mem_nil, or_false] at ho
      rcases ho with rfl | rfl | rfl | rfl | rfl <;> exact ⟨by decide, by decide, by decide, by decide, by decide, small_le (by decide), small_le (by decide), by decide⟩
    refine ⟨.ref a, rfl, a, _, 0, .str o, rfl, rfl, hS, at0, .str o, rfl, rfl, _, rfl, tst hno.1 ⟨.str o, rfl, rfl, _, rfl, tst hno.2.1 ⟨.str o, rfl, rfl, _, rfl, tst hno.2.2.1 ⟨.str o, rfl, rfl, _, rfl, tst hno.2.2.2.1 ⟨.str o, rfl, aO, ops5.map V.str, rfl, .inr (TO H), rfl, flat_strsW _, _, rfl, ?_⟩⟩⟩⟩⟩
    show if inV (.str o) (ops5.map V.str) = true then _ else _
    rw [in_strs, decide_eq_true ho]
    refine iteT ⟨.ref a, rfl, a, _, 1, ux, rfl, rfl, hS, atI_nat (j := 1) rfl, ⟨" ", rfl, b1, .str o, rfl, .inl ⟨o, rfl, Nat.le_trans hno.2.2.2.2.1 b1, o, rfl, hno.2.2.2.2.2.1, " ", rfl, hno.2.2.2.2.2.2.1, ?_⟩⟩⟩
    refine ⟨.ref a, rfl, a, _, 2, uy, rfl, rfl, hS, atI_nat (j := 2) rfl, b5, fun L nL => ?_⟩
    refine fin H L _ [.str "(", x, .str (Str.empty ++ " " ++ o ++ " "), y, .str ")"] s0 nL (.cons (.str _) (.cons g2 (.cons (.str _) (.cons g3 (.cons (.str _) .nil))))) ?_ ?_
    · have e : (40 :: (l1 ++ (32 :: (wd o ++ (32 :: (l2 ++ [41])))))) = wd "(" ++ (l1 ++ (wd (Str.empty ++ " " ++ o ++ " ") ++ (l2 ++ wd ")"))) := by
        rw [hno.2.2.2.2.2.2.2, show wd "(" = [40] by decide, show wd ")" = [41] by decide]
        simp only [List.append_assoc, List.cons_append, List.nil_append]
      rw [e]
      exact .cons (.str "(") (.cons (.ex n x l1 hx) (.cons (.str _) (.cons (.ex n y l2 hy) (PcL.one (.str ")")))))
    · have := (ms_le x).2
      have := (ms_le y).2
      rw [mss_cons, mss_cons, mss_cons, mss_cons, mss_one]
      show 1 + (ms x + (1 + (ms y + 1))) < 8 * sz _
      rw [sz, szs, szs, szs, szs]
      omega
  | call n o ys ls ho hl hys =>
    obtain ⟨a, xs, rfl, hS, hA⟩ := L10.Dd.tup_inv hd
    rcases hA with _ | ⟨g1, hA⟩; cases g1
    have hno : o ≠ "key" ∧ o ≠ "int" ∧ o ≠ "var" ∧ o ≠ "cell" ∧ o ∉ ops5 ∧ o ∉ aggW ∧ 1 ≤ ys.length ∧ ys.length ≤ 3 := by
      simp only [callk, List.mem_cons, List.not_mem_nil, or_false, Prod.mk.injEq] at ho
      rcases ho with ⟨rfl, e⟩ | ⟨rfl, e⟩ <;> exact ⟨by decide, by decide, by decide, by decide, by decide, by decide, by omega, by omega⟩
    obtain ⟨n1, n2, n3, n4, n5, n6, n7, n8⟩ := hno
    rcases hA with _ | ⟨g2, hA⟩
    · exact absurd n7 (by decide)
    rename_i u us y ys'
    obtain ⟨l1, ls', rfl⟩ : ∃ l1 ls', ls = l1 :: ls' := by
      cases ls with
      | nil => cases hl
      | cons l1 ls' => exact ⟨l1, ls', rfl⟩
    have hu := hA.len
    have nn : ys'.length ≤ 2 := by rw [List.length_cons] at n8; omega
    refine ⟨.ref a, rfl, a, _, 0, .str o, rfl, rfl, hS, at0, .str o, rfl, rfl, _, rfl, tst n1 ⟨.str o, rfl, rfl, _, rfl, tst n2 ⟨.str o, rfl, rfl, _, rfl, tst n3 ⟨.str o, rfl, rfl, _, rfl, tst n4 ⟨.str o, rfl, aO, ops5.map V.str, rfl, .inr (TO H), rfl, flat_strsW _, _, rfl, ?_⟩⟩⟩⟩⟩
    show if inV (.str o) (ops5.map V.str) = true then _ else _
    rw [in_strs, decide_eq_false n5]
    refine iteF ⟨.str o, rfl, aG, aggW.map V.str, rfl, .inr (TG H), rfl, flat_strsW _, _, rfl, ?_⟩
    show if inV (.str o) (aggW.map V.str) = true then _ else _
    rw [in_strs, decide_eq_false n6]
    refine iteF ⟨.str o, rfl, ⟨.ref a, rfl, 1, rfl, a, _, rfl, hS, no_1, fun c nc => ?_⟩⟩
    rw [cut_1]
    have s1 := same_upd (o := .tup (u :: us)) nc
    refine ⟨c, u, us, rfl, .inl (.inl upd_same), by omega, fun H2 L2 s2 n2 h2 => ⟨L2, _, rfl, .inr (.inl (.inl h2)), ?_, fun L nL => ?_⟩⟩
    · exact Nat.le_trans (show (V.str o :: V.str "(" :: (wcV u us ++ [V.str ")"])).length ≤ 10 by rw [List.length_cons, List.length_cons, List.length_append, wc_len, List.length_singleton]; omega) (small_le (by decide))
    have s12 := s1.trans s2
    refine fin H2 L _ (.str o :: .str "(" :: (wcD y ys' ++ [.str ")"])) s12 nL ?_ ?_ ?_
    · have kk : KeepO F0 H H2 := KeepO.of s12
      exact .cons (.str _) (.cons (.str _) (DdAll.app (.cons (g2.keep kk) (wc_dd (g2.keep kk) (hA.keep kk))) (.cons (.str _) .nil)))
    · have pp : PcL (wcD y ys') (commas (l1 :: ls')) := wc_pc (.ex n y l1 (hys (y, l1) (by rw [List.zip_cons_cons]; exact List.mem_cons_self))) (by simpa using hl.symm) fun p hp => .ex n _ _ (hys p (by rw [List.zip_cons_cons]; exact List.mem_cons_of_mem _ hp))
      have := PcL.cons (.str o) (PcL.cons (.str "(") (pp.app (PcL.one (.str ")"))))
      rwa [show wd "(" = [40] by decide, show wd ")" = [41] by decide] at this
    · have := (ms_le y).2
      have := mss_le ys'
      rw [mss_cons, mss_cons, mss_app, wc_mss, mss_one]
      show 1 + (1 + (ms y + mss ys' + ys'.length + 1)) < 8 * sz _
      rw [sz, szs, szs, sz]
      · omega
      · exact fun _ e => nomatch e
  | agg n o t ys ls h0 ho ht' hl hys =>
    obtain ⟨a, xs, rfl, hS, hA⟩ := L10.Dd.tup_inv hd
    rcases hA with _ | ⟨g1, hA⟩; cases g1; rcases hA with _ | ⟨g2, hA⟩; cases g2; rcases hA with _ | ⟨g3, hA⟩; rcases hA with _ | ⟨g4, hA⟩
    rename_i v3 v4 us
    have hno : o ≠ "key" ∧ o ≠ "int" ∧ o ≠ "var" ∧ o ≠ "cell" ∧ o ∉ ops5 ∧ o ∈ aggW ∧ 1 ≤ ys.length ∧ ys.length ≤ 3 := by
      simp only [aggn, List.mem_cons, List.not_mem_nil, or_false, Prod.mk.injEq] at ho
      rcases ho with ⟨rfl, e⟩ | ⟨rfl, e⟩ | ⟨rfl, e⟩ | ⟨rfl, e⟩ <;> exact ⟨by decide, by decide, by decide, by decide, by decide, by decide, by omega, by omega⟩
    obtain ⟨n1, n2, n3, n4, n5, n6, n7, n8⟩ := hno
    have hu := hA.len
    refine ⟨.ref a, rfl, a, _, 0, .str o, rfl, rfl, hS, at0, .str o, rfl, rfl, _, rfl, tst n1 ⟨.str o, rfl, rfl, _, rfl, tst n2 ⟨.str o, rfl, rfl, _, rfl, tst n3 ⟨.str o, rfl, rfl, _, rfl, tst n4 ⟨.str o, rfl, aO, ops5.map V.str, rfl, .inr (TO H), rfl, flat_strsW _, _, rfl, ?_⟩⟩⟩⟩⟩
    show if inV (.str o) (ops5.map V.str) = true then _ else _
    rw [in_strs, decide_eq_false n5]
    refine iteF ⟨.str o, rfl, aG, aggW.map V.str, rfl, .inr (TG H), rfl, flat_strsW _, _, rfl, ?_⟩
    show if inV (.str o) (aggW.map V.str) = true then _ else _
    rw [in_strs, decide_eq_true n6]
    refine iteT ⟨.str o, rfl, ⟨.ref a, rfl, a, _, 1, .str t, rfl, rfl, hS, atI_nat (j := 1) rfl, ⟨.ref a, rfl, 4, rfl, a, _, rfl, hS, no_4, fun c nc => ⟨c, _, rfl, .inl (.inl (.inl upd_same)), ?_⟩⟩⟩⟩
    rw [cut_4]
    have s1 := same_upd (o := .tup us) nc
    refine ⟨?_, fun L1 nL1 => ?_⟩
    · exact Nat.le_trans (show (V.str t :: (us ++ [])).length ≤ 10 by rw [List.length_cons, List.length_append, List.length_nil]; omega) (small_le (by decide))
    have s2 := same_upd (o := .lst (V.str t :: (us ++ []))) nL1
    refine ⟨L1, .str t, us ++ [], rfl, .inl (.inl upd_same), by rw [List.length_append, List.length_nil]; omega, fun H2 L2 s3 n2 h2 => ⟨L2, _, rfl, .inr (.inl (.inl h2)), ?_, fun L nL => ?_⟩⟩
    · exact Nat.le_trans (show (V.str o :: V.str "(" :: (wcV (V.str t) (us ++ []) ++ [V.str ")"])).length ≤ 12 by rw [List.length_cons, List.length_cons, List.length_append, wc_len, List.length_singleton, List.length_append, List.length_nil]; omega) (small_le (by decide))
    have s12 := (s1.trans s2).trans s3
    refine fin H2 L _ (.str o :: .str "(" :: (wcD (.str t) ys ++ [.str ")"])) s12 nL ?_ ?_ ?_
    · have kk : KeepO F0 H H2 := KeepO.of s12
      have d0 : DdAll K F0 H2 (wcV (V.str t) (us ++ [])) (wcD (.str t) ys) := by
        rw [List.append_nil]
        exact .cons (.str _) (wc_dd (.str t) (hA.keep kk))
      exact .cons (.str _) (.cons (.str _) (DdAll.app d0 (.cons (.str _) .nil)))
    · have pp : PcL (wcD (.str t) ys) (commas (wd t :: ls)) := wc_pc (.str t) hl.symm fun p hp => .ex n _ _ (hys p hp)
      have := PcL.cons (.str o) (PcL.cons (.str "(") (pp.app (PcL.one (.str ")"))))
      have e : commas (wd t :: ls) = wd t ++ (44 :: 32 :: commas ls) := by
        cases ls with
        | nil => rw [List.length_nil] at hl; omega
        | cons m ms' => rfl
      rw [e, show wd "(" = [40] by decide, show wd ")" = [41] by decide] at this
      simpa only [List.append_assoc, List.cons_append, List.nil_append] using this
    · have := mss_le ys
      rw [mss_cons, mss_cons, mss_app, wc_mss, mss_one]
      show 1 + (1 + (1 + mss ys + ys.length + 1)) < 8 * sz _
      rw [sz, szs, szs, szs, szs]
      omega
end
end L10

/-! an expression is shown -/
namespace L10
open PySem PySem.Spec PyProof.Rows L2 GR AD RZ WX ZE TX RVT
open SX (S S_cat S_len S_inj)
/-! how long a text is -/
theorem commas_len : ∀ ls : List (List Nat), (commas ls).length ≤ (ls.map List.length).sum + 2 * ls.length
  | [] => Nat.zero_le _
  | [l] => by
    show l.length ≤ _
    rw [List.map_cons, List.map_nil, List.sum_cons, List.sum_nil]
    omega
  | l :: m :: r => by
    have := commas_len (m :: r)
    show (l ++ ([44, 32] ++ commas (m :: r))).length ≤ _
    rw [List.length_append, List.length_append, List.map_cons, List.sum_cons, List.length_cons (a := l)]
    show l.length + (2 + _) ≤ _
    omega
theorem zip_len : ∀ {xs : List PyData} {ls : List (List Nat)}, ls.length = xs.length → (∀ p, p ∈ xs.zip ls → p.2.length ≤ 30 * sz p.1) → (ls.map List.length).sum ≤ 30 * szs xs
  | [], [], _, _ => Nat.zero_le _
  | [], _ :: _, h, _ => by cases h
  | _ :: _, [], h, _ => by cases h
  | x :: xs, l :: ls, h, ha => by
    have ih := zip_len (xs := xs) (ls := ls) (by simpa using h) fun p hp => ha p (by rw [List.zip_cons_cons]; exact List.mem_cons_of_mem _ hp)
    have := ha (x, l) (by rw [List.zip_cons_cons]; exact List.mem_cons_self)
    have this : l.length ≤ 30 * sz x := this
    rw [List.map_cons, List.sum_cons, szs]
    omega
theorem nm_len {z : Str} (h : Nm z) : (wd z).length ≤ 8 := h.2.1
theorem Tx.len {n : Nat} {d : PyData} {l : List Nat} (h : Tx n d l) : l.length ≤ 30 * sz d := by
  have s1 : ∀ z : Str, sz (.str z) = 1 := fun _ => rfl
  have si : ∀ i : Int, sz (.int i) = 1 := fun _ => rfl
  induction h with
  | int n i h1 h2 =>
    have := num_len h1 h2
    rw [sz, szs, szs, szs, s1, si]
    omega
  | key n =>
    rw [sz, szs, szs, s1]
    decide
  | var n z hz =>
    have := nm_len hz
    rw [sz, szs, szs, szs, s1, s1]
    omega
  | cell n t v x l h1 h2 _ ih =>
    have := nm_len h1
    have := nm_len h2
    rw [sz, szs, szs, szs, szs, szs, s1, s1, s1, List.length_append, List.length_cons, List.length_append, List.length_cons, List.length_cons]
    omega
  | op n o x y l m ho _ _ ih1 ih2 =>
    have ho : (wd o).length ≤ 1 := by
      simp only [ops5, List.mem_cons, List.not_mem_nil, or_false] at ho
      rcases ho with rfl | rfl | rfl | rfl | rfl <;> decide
    rw [sz, szs, szs, szs, szs, s1, List.length_cons, List.length_append, List.length_cons, List.length_append, List.length_cons, List.length_append, List.length_singleton]
    omega
  | call n o xs ls ho hl _ ih =>
    have hw : (wd o).length ≤ 2 ∧ xs.length ≤ 3 := by
      simp only [callk, List.mem_cons, List.not_mem_nil, or_false, Prod.mk.injEq] at ho
      rcases ho with ⟨rfl, e⟩ | ⟨rfl, e⟩ <;> exact ⟨by decide, by omega⟩
    have h1 := commas_len ls
    have h2 := zip_len hl ih
    rw [sz, szs, s1, List.length_append, List.length_cons, List.length_append, List.length_singleton]
    omega
  | agg n o t xs ls h0 ho ht hl _ ih =>
    have hw : (wd o).length ≤ 5 ∧ xs.length ≤ 3 := by
      simp only [aggn, List.mem_cons, List.not_mem_nil, or_false, Prod.mk.injEq] at ho
      rcases ho with ⟨rfl, e⟩ | ⟨rfl, e⟩ | ⟨rfl, e⟩ | ⟨rfl, e⟩ <;> exact ⟨by decide, by omega⟩
    have h1 := commas_len ls
    have h2 := zip_len hl ih
    have := nm_len ht
    rw [sz, szs, szs, szs, szs, s1, s1, List.length_append, List.length_cons, List.length_append, List.length_cons, List.length_cons, List.length_append, List.length_singleton]
    have := sz_pos (.tuple [])
    have := sz_pos (rowX t)
    omega
theorem join0 : ∀ ls : List (List Nat), TL.joinL [] ls = ls.flatten
  | [] => rfl
  | [l] => by rw [List.flatten_cons, List.flatten_nil, List.append_nil]; rfl
  | l :: m :: r => by
    show l ++ ([] ++ TL.joinL [] (m :: r)) = _
    rw [join0 (m :: r), List.nil_append, ← List.flatten_cons]
theorem map_S_wd (ys : List Str) : (ys.map wd).map S = ys := by
  rw [List.map_map]
  calc _ = ys.map id := List.map_congr_left fun z _ => S_wd z
    _ = ys := List.map_id _
theorem join_wd (ys : List Str) : Txt.join (S []) ys = S ((ys.map wd).flatten) := by
  have := SX.join_S [] (ys.map wd)
  rwa [map_S_wd, join0] at this
theorem sum_wd (ys : List Str) : (ys.map (·.length)).sum = ((ys.map wd).flatten).length := by
  induction ys with
  | nil => rfl
  | cons y ys ih =>
    rw [List.map_cons, List.map_cons, List.sum_cons, List.flatten_cons, List.length_append, ih]
    congr 1
theorem dd_rev {K : PySem.W.Frag} {ok : Addr → Prop} {H : Hp} : ∀ {us : List V} {ds : List PyData}, DdAll K ok H us ds → DdAll K ok H us.reverse ds.reverse
  | _, _, .nil => .nil
  | _, _, .cons a t => by
    rw [List.reverse_cons, List.reverse_cons]
    exact DdAll.app (dd_rev t) (.cons a .nil)
theorem tx_tup {n : Nat} {d : PyData} {l : List Nat} (h : Tx n d l) : ∃ ds, d = .tuple ds := by
  cases h <;> exact ⟨_, rfl⟩
section
variable {P : Program} {w : World} {K : PySem.W.Frag} {mg : Str → Option Value} {base : Heap}
abbrev s_show_expression : Stmt := topS 40
theorem sc_show_expression : FnScope ["expression", "shown", "todo", "piece"] ["expression"] (defScope s_show_expression) := ⟨rfl, rfl, rfl, by decide +kernel, rfl, by decide +kernel, by decide +kernel⟩
def sp_show (K : PySem.W.Frag) : Sp := fun vs H Q _ => ∃ (v : V) (n : Nat) (d : PyData) (l : List Nat), vs = [v] ∧ Dd K F0 H v d ∧ Tx n d l ∧ sz d ≤ 100000 ∧ ∀ H', Same H H' → Q (.str (S l)) H'
/-- what was shown, and what is still to do -/
def EInv (K : PySem.W.Frag) (v : V) (d0 : PyData) (l : List Nat) (sh td : Addr) (H0 : Hp) (m : Nat) (σ : L2.St) (H : Hp) : Prop :=
  ∃ (z : Option V) (us : List V) (xs : List PyData) (ys : List Str) (l2 : List Nat), σ = [some v, some (.ref sh), some (.ref td), z] ∧ H sh = some (.lst (ys.map V.str)) ∧ H td = some (.lst us) ∧ DdAll K F0 H us xs ∧ PcL xs.reverse l2 ∧ l = (ys.map wd).flatten ++ l2 ∧
    m = mss xs ∧ ys.length + m ≤ ms d0 ∧ (∀ b o, b ≠ td → b ≠ sh → H0 b = some o → H b = some o)
theorem ok_show_expression {f fc : Addr} {fd fdc : FuncData} {k : Nat} (F : Fun K "show_expression" "show_expression" s_show_expression f fd) (G : FnOk P w K mg base CX0 k fc fdc ["expression"] (sp_pieces K)) (gc : mg "pieces_of" = some (.ref fc)) (Kc : PySem.W.keepIn K (.ref fc) = true) (bc : Binds K fdc ["expression"] [])
    (misi : mg "isinstance" = none) (mstr : mg "str" = none) : FnOk P w K mg base CX0 (k + 1) f fd ["expression"] (sp_show K) := by
  have nd := sc_show_expression.nd
  refine F.ok sc_show_expression (fun vs H Q E h => ?_) (fun cdv A outer s H vs Q E hr h => ?_)
  · obtain ⟨v, n, d, l, rfl, _⟩ := h
    rfl
  obtain ⟨v, n, d, l, rfl, hd, ht, hsz, q⟩ := h
  refine ⟨_, (pss_cons (ps_set (i := 1) nd rfl (.inl rfl) (pe_lst pa_nil))
      (pss_cons (ps_set (i := 2) nd rfl (.inl rfl) (pe_lst (pa_cons (pv 0) pa_nil)))
      (pss_cons (ps_while PassesOwn.never (pt_truth (pv 2) (fun _ => rfl))
      (pss_cons (ps_set (i := 3) nd rfl (.inl rfl) (pe_bm0 PySem.F.plainAttrs_list PySem.F.slot_list_pop PySem.F.type_list_pop mt_pop (pv 2)))
        (pss_one (ps_if (pt_val (pe_callB call_isi (by rfl) misi boot_isinstance (pa_cons (pv 3) (pa_cons (pe_bltn (v := .ty "str") (by rfl) mstr boot_str rfl) pa_nil))))
        (pss_one (ps_expr (pe_bm PySem.F.plainAttrs_list PySem.F.slot_list_append PySem.F.type_list_append mt_append (pv 1) (pa_cons (pv 3) pa_nil))))
        (pss_one (ps_expr (pe_bm PySem.F.plainAttrs_list PySem.F.slot_list_extend PySem.F.type_list_extend mt_extend (pv 2) (pa_cons (pe_revL (pe_call G hr (by rfl) gc Kc bc .nil pass0 (pa_cons (pv 3) pa_nil))) pa_nil))))))))
      (pss_one (ps_ret (pe_join pe_str (pv 1))))))), ?_⟩
  have hml := (ms_le d).2
  have htl := ht.len
  refine ⟨small_le (show 0 ≤ 1000 by decide), fun sh nsh => ?_⟩
  have s0 := same_upd (o := .lst []) nsh
  refine ⟨v, rfl, small_le (show 1 ≤ 1000 by decide), fun td ntd => ?_⟩
  have s1 := same_upd (o := .lst [v]) ntd
  have hts : sh ≠ td := ne_of_none (show upd H sh (.lst []) sh = some (.lst []) from upd_same) ntd
  have ntd0 : H td = none := s0.free ntd
  refine ⟨EInv K v d l sh td H, ⟨mss [d], none, [v], [d], [], l, rfl, ?_, upd_same, .cons (hd.keep (KeepO.of (s0.trans s1))) .nil, PcL.one (.ex n d l ht), rfl, rfl, ?_, fun b o _ _ e => s1 _ _ (s0 _ _ e)⟩, ?_⟩
  · exact s1 _ _ upd_same
  · rw [mss_one]
    exact Nat.le_of_eq (Nat.zero_add _)
  rintro m σ H' ⟨z, us, xs, ys, l2, rfl, hsh, hu, hA, hP, hl, rfl, hm, kk⟩
  have lu := hA.len
  have lm := mss_len xs
  have fin : ∀ H2, (∀ b o, b ≠ td → b ≠ sh → H' b = some o → H2 b = some o) → Same H H2 := fun H2 s2 b o e => s2 _ _ (ne_of_none e ntd0) (ne_of_none e nsh) (kk _ _ (ne_of_none e ntd0) (ne_of_none e nsh) e)
  refine ⟨.ref td, rfl, !us.isEmpty, .inl ⟨us, .inl (.inl hu), rfl⟩, ?_⟩
  cases hus : us with
  | nil =>
    subst hus
    cases hA
    cases hP
    rw [List.append_nil] at hl
    refine iteF ⟨⟨_, rfl⟩, .ref sh, rfl, Str.ofString "", sh, ys, rfl, rfl, .inl (.inl (.inl hsh)), ?_, ?_⟩
    · rw [sum_wd, ← hl]
      show l.length + ys.length * 0 ≤ _
      omega
    · rw [show PySem.Str.ofString "" = S [] by decide +kernel, join_wd, ← hl]
      exact q H' (fin H' fun b o _ _ e => e)
  | cons u0 ur =>
    have hne : us ≠ [] := by
      rw [hus]
      exact List.cons_ne_nil _ _
    rw [← hus]
    have full : (!us.isEmpty) = true := by
      rw [hus]
      rfl
    rw [full]
    obtain ⟨y, e, xs', rfl, hy, hA', hye⟩ := dd_last hA hne
    rw [List.reverse_append, List.reverse_singleton, List.singleton_append] at hP
    rw [mss_app, mss_one] at hm
    refine iteT ⟨fun σ' H'' => ∃ m', m' < mss (xs' ++ [e]) ∧ EInv K v d l sh td H m' σ' H'', fun σ' H'' h => h, ?_⟩
    refine ⟨.ref td, rfl, .inl ⟨rfl, _, .inl (.inl hu)⟩, td, us, y, rfl, rfl, hu, hy, ?_⟩
    have k1 : KeepT H' (upd H' td (.lst us.dropLast)) := KeepT.lst hu
    have hu1 : upd H' td (.lst us.dropLast) td = some (.lst us.dropLast) := upd_same
    have keep1 : ∀ b o, b ≠ td → H' b = some o → upd H' td (.lst us.dropLast) b = some o := fun b o hb e => by
      rw [upd_ne hb]
      exact e
    have hA1 := hA'.keep (kf0 k1)
    have hye1 := hye.keep (kf0 k1)
    have hsh1 := keep1 _ _ hts hsh
    revert k1 hu1 keep1 hA1 hye1 hsh1
    generalize upd H' td (.lst us.dropLast) = H1
    intro k1 hu1 keep1 hA1 hye1 hsh1
    refine ⟨y, rfl, y, .ty "str", _, _, _, rfl, .ty "str", hye1.ty, kit_s K e, _, rfl, ?_⟩
    cases hP with
    | cons hp hP' =>
    rename_i lx lr
    cases hp with
    | str z =>
      cases hye1
      refine iteT ⟨.ref sh, rfl, .inl ⟨rfl, _, .inl (.inl hsh1)⟩, .str z, rfl, sh, _, .str z, rfl, rfl, hsh1, ?_, ?_⟩
      · rw [List.length_map, sizeLine_eq]
        rw [show ms (.str z) = 1 from rfl] at hm
        omega
      have k2 : KeepT H1 (upd H1 sh (.lst (ys.map V.str ++ [.str z]))) := KeepT.lst hsh1
      refine ⟨mss xs', ?_, _, us.dropLast, xs', ys ++ [z], lr, rfl, ?_, ?_, hA1.keep (kf0 k2), hP', ?_, rfl, ?_, fun b o h1 h2 e => ?_⟩
      · rw [mss_app, mss_one]
        exact Nat.lt_add_of_pos_right (ms_le _).1
      · rw [List.map_append]
        exact upd_same
      · rw [upd_ne hts.symm]
        exact hu1
      · rw [hl, List.map_append, List.flatten_append, List.map_singleton, List.flatten_singleton, List.append_assoc]
      · rw [show ms (.str z) = 1 from rfl] at hm
        rw [List.length_append, List.length_singleton]
        omega
      · rw [upd_ne h2]
        exact keep1 _ _ h1 (kk _ _ h1 h2 e)
    | ex n2 _ _ htx =>
      obtain ⟨es, rfl⟩ := tx_tup htx
      refine iteF ⟨.ref td, rfl, .inl ⟨rfl, _, .inl (.inl hu1)⟩, y, rfl, y, n2, _, lx, rfl, hye1, htx, fun H2 L us2 ps s2 nL hL hds hps hms => ⟨L, us2, rfl, .inl (.inl hL), fun p np => ?_⟩⟩
      have s3 := same_upd (o := .lst us2.reverse) np
      have htd3 : upd H2 p (.lst us2.reverse) td = some (.lst us.dropLast) := s3 _ _ (s2 _ _ hu1)
      have hp3 : upd H2 p (.lst us2.reverse) p = some (.lst us2.reverse) := upd_same
      have hds3 := dd_rev (hds.keep (KeepO.of s3))
      have hA3 := hA1.keep (KeepO.of (s2.trans s3))
      have hsh3 := s3 _ _ (s2 _ _ hsh1)
      have keep3 : ∀ b o, b ≠ td → H' b = some o → upd H2 p (.lst us2.reverse) b = some o := fun b o hb e => s3 _ _ (s2 _ _ (keep1 _ _ hb e))
      revert htd3 hp3 hds3 hA3 hsh3 keep3
      generalize upd H2 p (.lst us2.reverse) = H3
      intro htd3 hp3 hds3 hA3 hsh3 keep3
      have l1 := hA1.len
      have l2' := hds.len
      have lps := mss_len ps
      have lxs := mss_len xs'
      have k4 : KeepT H3 (upd H3 td (.lst (us.dropLast ++ us2.reverse))) := KeepT.lst htd3
      refine ⟨td, p, us.dropLast, us2.reverse, rfl, rfl, htd3, hp3, ?_, mss (xs' ++ ps.reverse), ?_, some y, _, xs' ++ ps.reverse, ys, lx ++ lr, rfl, ?_, upd_same, (DdAll.app hA3 hds3).keep (kf0 k4), ?_, hl, rfl, ?_, fun b o h1 h2 e => ?_⟩
      · rw [List.length_reverse, sizeLine_eq]
        omega
      · rw [mss_app, mss_app, mss_rev, mss_one]
        omega
      · rw [upd_ne hts]
        exact hsh3
      · rw [List.reverse_append, List.reverse_reverse]
        exact hps.app hP'
      · rw [mss_app, mss_rev]
        omega
      · rw [upd_ne h1]
        exact keep3 _ _ h1 (kk _ _ h1 h2 e)
end
end L10

/-! expressions are read -/
namespace L10
open PySem PySem.Spec PyProof.Rows L2 GR AD RZ WX ZE TX RVT
open SX (S S_cat S_len S_inj)
open _root_.StX (pa_star)
/-! bundles -/
section
variable (P : Program) (w : World) (K : PySem.W.Frag) (mg : Str → Option Value) (base : Heap)
/-- a method of the reader -/
def ME (C : Addr) (m : Str) (ps : List Str) (sp : Sp) (k : Nat) : Prop := ∃ (f : Addr) (fd : FuncData), FnOk P w K mg base CX0 k f fd ps sp ∧ Meth K C m f ∧ Binds K fd ps []
/-- a def of the module -/
def DF (x : Str) (ps : List Str) (sp : Sp) (k : Nat) : Prop := ∃ (f : Addr) (fd : FuncData), FnOk P w K mg base CX0 k f fd ps sp ∧ mg x = some (.ref f) ∧ PySem.W.keepIn K (.ref f) = true ∧ Binds K fd ps []
structure RdM (C : Addr) (k : Nat) : Prop where
  T : RC K C
  next : ME P w K mg base C "is_next" ["self", "piece"] (sp_next C) k
  anext : ME P w K mg base C "is_any_next" ["self", "signs"] (sp_anext C) k
  take : ME P w K mg base C "take" ["self", "piece"] (sp_take C) k
  tany : ME P w K mg base C "take_any" ["self", "pieces"] (sp_tany K C) k
  tword : ME P w K mg base C "take_word" ["self"] (sp_tword C) k
  tname : ME P w K mg base C "take_name" ["self"] (sp_tname C) k
  tvalue : ME P w K mg base C "take_value" ["self"] (sp_tvalue C) k
  tend : ME P w K mg base C "take_end" ["self"] (sp_tend C) k
end
section
variable {P : Program} {w : World} {K : PySem.W.Frag} {mg : Str → Option Value} {base : Heap}
theorem ME.up {C : Addr} {m : Str} {ps : List Str} {sp : Sp} {j k : Nat} (h : ME P w K mg base C m ps sp j) (e : j ≤ k) : ME P w K mg base C m ps sp k := by
  obtain ⟨f, fd, a, b, c⟩ := h
  exact ⟨f, fd, a.mono e, b, c⟩
theorem DF.up {x : Str} {ps : List Str} {sp : Sp} {j k : Nat} (h : DF P w K mg base x ps sp j) (e : j ≤ k) : DF P w K mg base x ps sp k := by
  obtain ⟨f, fd, a, b, c, d⟩ := h
  exact ⟨f, fd, a.mono e, b, c, d⟩
theorem RdM.up {C : Addr} {j k : Nat} (h : RdM P w K mg base C j) (e : j ≤ k) : RdM P w K mg base C k := ⟨h.T, h.next.up e, h.anext.up e, h.take.up e, h.tany.up e, h.tword.up e, h.tname.up e, h.tvalue.up e, h.tend.up e⟩
/-! what may follow an expression -/
def Fo (r : List Nat) : Prop := r = [] ∨ ∃ c t, r = c :: t ∧ (c = 32 ∨ c = 41 ∨ c = 44 ∨ c = 93)
theorem Fo.c {c : Nat} {t : List Nat} (h : c = 32 ∨ c = 41 ∨ c = 44 ∨ c = 93) : Fo (c :: t) := .inr ⟨c, t, rfl, h⟩
theorem Fo.l26 {r : List Nat} (h : Fo r) : nextIn L26 r = false := by
  rcases h with rfl | ⟨c, t, rfl, rfl | rfl | rfl | rfl⟩
  · rfl
  · exact (by decide +kernel : decide (32 ∈ wd L26) = false)
  · exact (by decide +kernel : decide (41 ∈ wd L26) = false)
  · exact (by decide +kernel : decide (44 ∈ wd L26) = false)
  · exact (by decide +kernel : decide (93 ∈ wd L26) = false)
theorem Fo.dg {r : List Nat} (h : Fo r) : nextIn DG r = false := by
  rcases h with rfl | ⟨c, t, rfl, rfl | rfl | rfl | rfl⟩
  · rfl
  · exact (by decide +kernel : decide (32 ∈ wd DG) = false)
  · exact (by decide +kernel : decide (41 ∈ wd DG) = false)
  · exact (by decide +kernel : decide (44 ∈ wd DG) = false)
  · exact (by decide +kernel : decide (93 ∈ wd DG) = false)
theorem Fo.no {a : Nat} {r : List Nat} (h : Fo r) (e : a = 40 ∨ a = 91) : ([a] : List Nat).isPrefixOf r = false := by
  rcases h with rfl | ⟨c, t, rfl, rfl | rfl | rfl | rfl⟩ <;> rcases e with rfl | rfl <;> rfl
abbrev SG : Str := "-0123456789"
/-- a text that begins with a sign of a word -/
def LowH (u : List Nat) : Prop := ∃ c t, u = c :: t ∧ Low c
theorem LowH.app {u r : List Nat} (h : LowH u) : LowH (u ++ r) := by
  obtain ⟨c, t, rfl, hc⟩ := h
  exact ⟨c, t ++ r, rfl, hc⟩
theorem LowH.no {u : List Nat} (h : LowH u) : ([40] : List Nat).isPrefixOf u = false ∧ nextIn SG u = false := by
  obtain ⟨c, t, rfl, h1, h2⟩ := h
  constructor
  · show ((40 == c) && true) = false
    rw [Bool.and_true, beq_eq_false_iff_ne]
    omega
  · refine decide_eq_false fun hm => ?_
    have : ∀ c, c ∈ wd SG → c < 97 := by decide +kernel
    have := this c hm
    omega
theorem nm_lowH {z : Str} (h : Nm z) : LowH (wd z) := by
  obtain ⟨h1, _, h3, _⟩ := h
  cases e : wd z with
  | nil => rw [show z.cps.toList = wd z from rfl, e] at h1; exact absurd h1 (by decide)
  | cons c t => exact ⟨c, t, rfl, h3 c (by rw [show z.cps.toList = wd z from rfl, e]; exact List.mem_cons_self)⟩
theorem num_first (i : Int) : ∃ c t, num i = c :: t ∧ (c = 45 ∨ isD c = true) := by
  obtain ⟨ng, ds, h, hne, hds⟩ := num_form i
  cases ng with
  | true => exact ⟨45, ds, h, .inl rfl⟩
  | false =>
    cases ds with
    | nil => exact absurd rfl hne
    | cons c ds =>
      rw [List.all_cons, Bool.and_eq_true] at hds
      exact ⟨c, ds, h, .inr hds.1⟩
theorem num_no (i : Int) (r : List Nat) : ([40] : List Nat).isPrefixOf (num i ++ r) = false ∧ nextIn SG (num i ++ r) = true := by
  obtain ⟨c, t, h, hc⟩ := num_first i
  rw [h]
  constructor
  · show ((40 == c) && true) = false
    rw [Bool.and_true, beq_eq_false_iff_ne]
    rcases hc with rfl | hc
    · decide
    · rw [Bool.and_eq_true, decide_eq_true_eq, decide_eq_true_eq] at hc
      omega
  · refine decide_eq_true ?_
    rcases hc with rfl | hc
    · decide +kernel
    · have := dg_mem hc
      have e : wd SG = 45 :: wd DG := by decide +kernel
      rw [e]
      exact List.mem_cons_of_mem _ this
/-! the heap -/
theorem KeepR.o {C p dx : Addr} {H H' : Hp} {fs : List (Str × V)} (h : H p = some (.ins C dx fs)) (k : KeepR p H H') : KeepO F0 H H' := by
  refine ⟨fun b xs e => k b _ (fun eb => ?_) e, fun b u xs e => k b _ (fun eb => ?_) e, fun _ _ h => h.elim⟩
  · subst eb
    rw [h] at e
    cases e
  · subst eb
    rw [h] at e
    cases e
theorem RdAt.same {C p : Addr} {H H' : Hp} {l : List Nat} {i : Nat} (h : RdAt C H p l i) (s : Same H H') : RdAt C H' p l i := by
  obtain ⟨dx, h⟩ := h
  exact ⟨dx, s _ _ h⟩
theorem RdAt.o {C p : Addr} {H H' : Hp} {l : List Nat} {i : Nat} (h : RdAt C H p l i) (k : KeepR p H H') : KeepO F0 H H' := by
  obtain ⟨dx, h⟩ := h
  exact KeepR.o h k
abbrev TupIs (K : PySem.W.Frag) (H : Hp) (v : V) (ds : List PyData) : Prop := Dd K F0 H v (.tuple ds)
/-- the spec of reading an expression -/
def sp_texp (K : PySem.W.Frag) (C : Addr) (n : Nat) : Sp := fun vs H Q _ => ∃ (p : Addr) (l l' r : List Nat) (i : Nat) (d : PyData) (rm : Int), vs = [.ref p, .int rm] ∧ (n : Int) ≤ rm ∧ RdAt C H p l i ∧ i ≤ l.length ∧ l.length ≤ 8000000 ∧ Tx n d l' ∧ l.drop i = l' ++ r ∧ Fo r ∧
  ∀ H' v, KeepR p H H' → RdAt C H' p l (i + l'.length) → l.drop (i + l'.length) = r → i + l'.length ≤ l.length → Dd K F0 H' v d → Q v H'
theorem nopl {z : Str} {i : Nat} {m : Str} (h : (!decide (m = "place") && !decide (m = "text")) = true) : (fl z i).lookup m = none := by
  rw [Bool.and_eq_true, Bool.not_eq_true', Bool.not_eq_true', decide_eq_false_iff_not, decide_eq_false_iff_not] at h
  exact fl_no _ _ h.1 h.2
theorem ops_split {o : Str} (h : o ∈ ops5) : ∃ as bs, ops5 = as ++ o :: bs ∧ ∀ a, a ∈ as → ∀ r, (wd a).isPrefixOf (wd o ++ r) = false := by
  simp only [ops5, List.mem_cons, List.not_mem_nil, or_false] at h
  rcases h with rfl | rfl | rfl | rfl | rfl
  · exact ⟨[], _, rfl, fun a ha => nomatch ha⟩
  · exact ⟨["+"], _, rfl, fun a ha r => by simp only [List.mem_cons, List.not_mem_nil, or_false] at ha; rcases ha with rfl; rfl⟩
  · exact ⟨["+", "-"], _, rfl, fun a ha r => by simp only [List.mem_cons, List.not_mem_nil, or_false] at ha; rcases ha with rfl | rfl <;> rfl⟩
  · exact ⟨["+", "-", "*"], _, rfl, fun a ha r => by simp only [List.mem_cons, List.not_mem_nil, or_false] at ha; rcases ha with rfl | rfl | rfl <;> rfl⟩
  · exact ⟨["+", "-", "*", "<"], _, rfl, fun a ha r => by simp only [List.mem_cons, List.not_mem_nil, or_false] at ha; rcases ha with rfl | rfl | rfl | rfl <;> rfl⟩
abbrev s_take_operation : Stmt := topS 44
theorem sc_take_operation : FnScope ["reader", "room", "one", "word", "other"] ["reader", "room"] (defScope s_take_operation) := ⟨rfl, rfl, rfl, by decide +kernel, rfl, by decide +kernel, by decide +kernel⟩
def sp_top (K : PySem.W.Frag) (C : Addr) (n : Nat) : Sp := fun vs H Q _ => ∃ (p : Addr) (l r l1 l2 : List Nat) (i : Nat) (o : Str) (x y : PyData) (rm : Int), vs = [.ref p, .int rm] ∧ (n : Int) + 1 ≤ rm ∧ RdAt C H p l i ∧ i ≤ l.length ∧ l.length ≤ 8000000 ∧ o ∈ ops5 ∧ Tx n x l1 ∧ Tx n y l2 ∧
  l.drop i = (40 :: (l1 ++ (32 :: (wd o ++ (32 :: (l2 ++ [41])))))) ++ r ∧
  ∀ H' v, KeepR p H H' → RdAt C H' p l (i + (40 :: (l1 ++ (32 :: (wd o ++ (32 :: (l2 ++ [41])))))).length) → l.drop (i + (40 :: (l1 ++ (32 :: (wd o ++ (32 :: (l2 ++ [41])))))).length) = r → i + (40 :: (l1 ++ (32 :: (wd o ++ (32 :: (l2 ++ [41])))))).length ≤ l.length → Dd K F0 H' v (.tuple [.str o, x, y]) → Q v H'
theorem ok_take_operation {f C aO : Addr} {fd : FuncData} {k n : Nat} (F : Fun K "take_operation" "take_operation" s_take_operation f fd) (R : RdM P w K mg base C k) (X : DF P w K mg base "take_expression" ["reader", "room"] (sp_texp K C n) k)
    (mO : mg "OPERATIONS" = some (.ref aO)) (TO : KTx K aO ops5) : FnOk P w K mg base CX0 (k + 1) f fd ["reader", "room"] (sp_top K C n) := by
  have nd := sc_take_operation.nd
  refine F.ok sc_take_operation (fun vs H Q E h => ?_) (fun cdv A outer s H vs Q E hr h => ?_)
  · obtain ⟨p, l, r, l1, l2, i, o, x, y, rm, rfl, _⟩ := h
    rfl
  obtain ⟨p, l, r, l1, l2, i, o, x, y, rm, rfl, hrm, rd, hi, hl, ho, hx, hy, hd, qq⟩ := h
  obtain ⟨ft, dt, Gt, mt, bt⟩ := R.take
  obtain ⟨fa, da, Ga, ma, ba⟩ := R.tany
  obtain ⟨fx, dxx, Gx, gx, Kx, bx⟩ := X
  have T := R.T
  refine ⟨_, (pss_cons (ps_expr (pe_meth (pv 0) T.cl mt Gt hr bt .nil pass0 (pa_cons pe_str pa_nil)))
      (pss_cons (ps_set (i := 2) nd rfl (.inl rfl) (pe_call Gx hr (by rfl) gx Kx bx .nil pass0 (pa_cons (pv 0) (pa_cons (pe_op op_sub (pv 1) pe_int) pa_nil))))
      (pss_cons (ps_expr (pe_meth (pv 0) T.cl mt Gt hr bt .nil pass0 (pa_cons pe_str pa_nil)))
      (pss_cons (ps_set (i := 3) nd rfl (.inl rfl) (pe_meth (pv 0) T.cl ma Ga hr ba .nil pass0 (pa_cons (pe_glob (v := .ref aO) rfl mO rfl) pa_nil)))
      (pss_cons (ps_expr (pe_meth (pv 0) T.cl mt Gt hr bt .nil pass0 (pa_cons pe_str pa_nil)))
      (pss_cons (ps_set (i := 4) nd rfl (.inl rfl) (pe_call Gx hr (by rfl) gx Kx bx .nil pass0 (pa_cons (pv 0) (pa_cons (pe_op op_sub (pv 1) pe_int) pa_nil))))
      (pss_cons (ps_expr (pe_meth (pv 0) T.cl mt Gt hr bt .nil pass0 (pa_cons pe_str pa_nil)))
      (pss_one (ps_ret (pe_tup (pa_cons (pv 3) (pa_cons (pv 2) (pa_cons (pv 4) pa_nil))))))))))))), ?_⟩
  have tk : ∀ {i : Nat} {H : Hp}, RdAt C H p l i → ∃ dx, H p = some (.ins C dx (fl (S l) i)) := fun h => h
  obtain ⟨dx, hp⟩ := tk rd
  refine ⟨.ref p, rfl, p, dx, _, rfl, hp, nopl (by decide +kernel), p, l, [40], l1 ++ (32 :: (wd o ++ (32 :: (l2 ++ [41])))) ++ r, i, rfl, rd, hi, hd, hl, fun H1 k1 r1 d1 e1 => ?_⟩
  refine ⟨.ref p, rfl, .int rm, rfl, rm, 1, rfl, rfl, p, l, l1, (32 :: (wd o ++ (32 :: (l2 ++ [41])))) ++ r, i + ([40] : List Nat).length, x, rm - 1, rfl, by omega, r1, e1, hl, hx, by rw [d1, List.append_assoc], Fo.c (.inl rfl), fun H2 v1 k2 r2 d2 e2 hv1 => ?_⟩
  obtain ⟨dx2, hp2⟩ := tk r2
  refine ⟨.ref p, rfl, p, dx2, _, rfl, hp2, nopl (by decide +kernel), p, l, [32], (wd o ++ (32 :: (l2 ++ [41]))) ++ r, _, rfl, r2, e2, d2, hl, fun H3 k3 r3 d3 e3 => ?_⟩
  obtain ⟨as, bs, eo, hno⟩ := ops_split ho
  obtain ⟨dx3, hp3⟩ := tk r3
  refine ⟨.ref p, rfl, p, dx3, _, rfl, hp3, nopl (by decide +kernel), p, aO, l, (32 :: (l2 ++ [41])) ++ r, _, as, bs, o, rfl, by rw [← eo]; exact TO H3, r3, e3, hl, fun a ha => by rw [d3, List.append_assoc]; exact hno a ha _, by rw [d3, List.append_assoc], fun H4 k4 r4 d4 e4 => ?_⟩
  obtain ⟨dx4, hp4⟩ := tk r4
  refine ⟨.ref p, rfl, p, dx4, _, rfl, hp4, nopl (by decide +kernel), p, l, [32], (l2 ++ [41]) ++ r, _, rfl, r4, e4, d4, hl, fun H5 k5 r5 d5 e5 => ?_⟩
  refine ⟨.ref p, rfl, .int rm, rfl, rm, 1, rfl, rfl, p, l, l2, [41] ++ r, _, y, rm - 1, rfl, by omega, r5, e5, hl, hy, by rw [d5, List.append_assoc], Fo.c (.inr (.inl rfl)), fun H6 v2 k6 r6 d6 e6 hv2 => ?_⟩
  obtain ⟨dx6, hp6⟩ := tk r6
  refine ⟨.ref p, rfl, p, dx6, _, rfl, hp6, nopl (by decide +kernel), p, l, [41], r, _, rfl, r6, e6, d6, hl, fun H7 k7 r7 d7 e7 => ?_⟩
  refine ⟨.str o, rfl, v1, rfl, v2, rfl, small_le (show 3 ≤ 1000 by decide), fun t nt => ?_⟩
  have ej : i + ([40] : List Nat).length + l1.length + ([32] : List Nat).length + (wd o).length + ([32] : List Nat).length + l2.length + ([41] : List Nat).length = i + (40 :: (l1 ++ (32 :: (wd o ++ (32 :: (l2 ++ [41])))))).length := by
    simp only [List.length_cons, List.length_append, List.length_nil]
    omega
  rw [ej] at r7 d7 e7
  have st := same_upd (o := .tup [.str o, v1, v2]) nt
  have k27 := ((((k3.trans k4).trans k5).trans k6).trans k7)
  exact qq _ _ ((((k1.trans k2).trans k27)).trans (KeepR.of st)) (r7.same st) d7 e7
    (.tup (.inl (.inl upd_same)) (.cons (.str o) (.cons (((hv1.keep (r2.o k27)).keep (KeepO.of st))) (.cons ((hv2.keep (r6.o k7)).keep (KeepO.of st)) .nil))))
abbrev s_take_cell : Stmt := topS 45
theorem sc_take_cell : FnScope ["reader", "table", "room", "key"] ["reader", "table", "room"] (defScope s_take_cell) := ⟨rfl, rfl, rfl, by decide +kernel, rfl, by decide +kernel, by decide +kernel⟩
def sp_tcell (K : PySem.W.Frag) (C : Addr) (n : Nat) : Sp := fun vs H Q _ => ∃ (p : Addr) (l r l1 : List Nat) (i : Nat) (t c : Str) (x : PyData) (rm : Int), vs = [.ref p, .str t, .int rm] ∧ (n : Int) + 1 ≤ rm ∧ RdAt C H p l i ∧ i ≤ l.length ∧ l.length ≤ 8000000 ∧ Nm c ∧ Tx n x l1 ∧ Fo r ∧
  l.drop i = (91 :: (l1 ++ (93 :: 46 :: wd c))) ++ r ∧
  ∀ H' v, KeepR p H H' → RdAt C H' p l (i + (91 :: (l1 ++ (93 :: 46 :: wd c))).length) → l.drop (i + (91 :: (l1 ++ (93 :: 46 :: wd c))).length) = r → i + (91 :: (l1 ++ (93 :: 46 :: wd c))).length ≤ l.length → Dd K F0 H' v (.tuple [.str "cell", .str t, x, .str c]) → Q v H'
theorem ok_take_cell {f C : Addr} {fd : FuncData} {k n : Nat} (F : Fun K "take_cell" "take_cell" s_take_cell f fd) (R : RdM P w K mg base C k) (X : DF P w K mg base "take_expression" ["reader", "room"] (sp_texp K C n) k) :
    FnOk P w K mg base CX0 (k + 1) f fd ["reader", "table", "room"] (sp_tcell K C n) := by
  have nd := sc_take_cell.nd
  refine F.ok sc_take_cell (fun vs H Q E h => ?_) (fun cdv A outer s H vs Q E hr h => ?_)
  · obtain ⟨p, l, r, l1, i, t, c, x, rm, rfl, _⟩ := h
    rfl
  obtain ⟨p, l, r, l1, i, t, c, x, rm, rfl, hrm, rd, hi, hl, hc, hx, hr', hd, qq⟩ := h
  obtain ⟨ft, dt, Gt, mt, bt⟩ := R.take
  obtain ⟨fa, da, Ga, ma, ba⟩ := R.tname
  obtain ⟨fx, dxx, Gx, gx, Kx, bx⟩ := X
  have T := R.T
  refine ⟨_, (pss_cons (ps_expr (pe_meth (pv 0) T.cl mt Gt hr bt .nil pass0 (pa_cons pe_str pa_nil)))
      (pss_cons (ps_set (i := 3) nd rfl (.inl rfl) (pe_call Gx hr (by rfl) gx Kx bx .nil pass0 (pa_cons (pv 0) (pa_cons (pe_op op_sub (pv 2) pe_int) pa_nil))))
      (pss_cons (ps_expr (pe_meth (pv 0) T.cl mt Gt hr bt .nil pass0 (pa_cons pe_str pa_nil)))
      (pss_one (ps_ret (pe_tup (pa_cons pe_str (pa_cons (pv 1) (pa_cons (pv 3) (pa_cons (pe_meth0 (pv 0) T.cl ma Ga hr ba .nil pass0) pa_nil)))))))))), ?_⟩
  have tk : ∀ {i : Nat} {H : Hp}, RdAt C H p l i → ∃ dx, H p = some (.ins C dx (fl (S l) i)) := fun h => h
  obtain ⟨dx, hp⟩ := tk rd
  refine ⟨.ref p, rfl, p, dx, _, rfl, hp, nopl (by decide +kernel), p, l, [91], l1 ++ (93 :: 46 :: wd c) ++ r, i, rfl, rd, hi, hd, hl, fun H1 k1 r1 d1 e1 => ?_⟩
  refine ⟨.ref p, rfl, .int rm, rfl, rm, 1, rfl, rfl, p, l, l1, (93 :: 46 :: wd c) ++ r, i + ([91] : List Nat).length, x, rm - 1, rfl, by omega, r1, e1, hl, hx, by rw [d1, List.append_assoc], Fo.c (.inr (.inr (.inr rfl))), fun H2 v1 k2 r2 d2 e2 hv1 => ?_⟩
  obtain ⟨dx2, hp2⟩ := tk r2
  refine ⟨.ref p, rfl, p, dx2, _, rfl, hp2, nopl (by decide +kernel), p, l, [93, 46], wd c ++ r, _, rfl, r2, e2, d2, hl, fun H3 k3 r3 d3 e3 => ?_⟩
  obtain ⟨dx3, hp3⟩ := tk r3
  refine ⟨.str t, rfl, v1, rfl, .ref p, rfl, p, dx3, _, rfl, hp3, nopl (by decide +kernel), p, l, r, c, _, rfl, r3, e3, hl, hc, d3, hr'.l26, fun H4 k4 r4 d4 e4 => ⟨small_le (show 4 ≤ 1000 by decide), fun a na => ?_⟩⟩
  have ej : i + ([91] : List Nat).length + l1.length + ([93, 46] : List Nat).length + (wd c).length = i + (91 :: (l1 ++ (93 :: 46 :: wd c))).length := by
    simp only [List.length_cons, List.length_append, List.length_nil]
    omega
  rw [ej] at r4 d4 e4
  have st := same_upd (o := .tup [.str "cell", .str t, v1, .str c]) na
  have k24 := k3.trans k4
  exact qq _ _ (((k1.trans k2).trans k24).trans (KeepR.of st)) (r4.same st) d4 e4
    (.tup (.inl (.inl upd_same)) (.cons (.str _) (.cons (.str t) (.cons ((hv1.keep (r2.o k24)).keep (KeepO.of st)) (.cons (.str c) .nil)))))
end
end L10

/-! calls are read -/
namespace L10
open PySem PySem.Spec PyProof.Rows L2 GR AD RZ WX ZE TX RVT
open SX (S S_cat S_len S_inj)
open _root_.StX (pa_star)
/-- what follows the first of some texts -/
def cR : List (List Nat) → List Nat
  | [] => []
  | l :: ls => 44 :: 32 :: (l ++ cR ls)
theorem commas_cons (l : List Nat) : ∀ ls : List (List Nat), commas (l :: ls) = l ++ cR ls
  | [] => by rw [cR, List.append_nil]; rfl
  | m :: ls => by
    show l ++ ([44, 32] ++ commas (m :: ls)) = _
    rw [commas_cons m ls]
    rfl
theorem fo_cR (ls : List (List Nat)) {r : List Nat} (h : Fo r) : Fo (cR ls ++ r) := by
  cases ls with
  | nil => exact h
  | cons l ls => exact Fo.c (.inr (.inr (.inl rfl)))
/-- the numbers of arguments -/
abbrev argk : List (Str × Nat) := [("if", 3), ("at", 2), ("count", 1), ("sum", 2), ("most", 3), ("first", 2)]
structure ArgT (K : PySem.W.Frag) (w : World) (aA : Addr) (es : Array DictEntry) (n : Nat) : Prop where
  kd : KDict K w aA es n
  yes : ∀ o c, (o, c) ∈ argk → ∃ t, PySem.W.nsIn K aA o = some (some (.int (c : Nat) t))
/-- a call and the text behind its word -/
inductive Cl (n : Nat) (o : Str) : PyData → List Nat → Prop
  | call (xs : List PyData) (ls : List (List Nat)) : (o, xs.length) ∈ callk → ls.length = xs.length → (∀ p, p ∈ xs.zip ls → Tx n p.1 p.2) → Cl n o (.tuple (.str o :: xs)) (40 :: (commas ls ++ [41]))
  | agg (t : Str) (xs : List PyData) (ls : List (List Nat)) : 2 ≤ n → (o, xs.length) ∈ aggn → Nm t → ls.length = xs.length → (∀ p, p ∈ xs.zip ls → Tx n p.1 p.2) →
      Cl n o (.tuple (.str o :: .str t :: .tuple [] :: rowX t :: xs)) (40 :: (wd t ++ (44 :: 32 :: (commas ls ++ [41]))))
section
variable {P : Program} {w : World} {K : PySem.W.Frag} {mg : Str → Option Value} {base : Heap}
abbrev s_take_beginning : Stmt := topS 47
theorem sc_take_beginning : FnScope ["reader", "word", "room", "table"] ["reader", "word", "room"] (defScope s_take_beginning) := ⟨rfl, rfl, rfl, by decide +kernel, rfl, by decide +kernel, by decide +kernel⟩
def sp_tbeg (K : PySem.W.Frag) (C : Addr) : Sp := fun vs H Q _ => ∃ (p : Addr) (l r : List Nat) (i : Nat) (o t : Str) (rm : Int), vs = [.ref p, .str o, .int rm] ∧ 3 ≤ rm ∧ RdAt C H p l i ∧ i ≤ l.length ∧ l.length ≤ 8000000 ∧ Nm t ∧ l.drop i = wd t ++ (44 :: 32 :: r) ∧
  ∀ H' a ws, KeepR p H H' → RdAt C H' p l (i + (wd t).length + 2) → l.drop (i + (wd t).length + 2) = r → i + (wd t).length + 2 ≤ l.length → SqT K H' a ws → DdAll K F0 H' ws [.str o, .str t, .tuple [], rowX t] → Q (.ref a) H'
theorem ok_take_beginning {f C : Addr} {fd : FuncData} {k : Nat} {tk : Tok} (F : Fun K "take_beginning" "take_beginning" s_take_beginning f fd) (R : RdM P w K mg base C k) (X : DF P w K mg base "rows_of" ["table"] (sp_rows_of K) k)
    (mD : mg "DEPTH_OF_ROWS" = some (.int 2 tk)) : FnOk P w K mg base CX0 (k + 1) f fd ["reader", "word", "room"] (sp_tbeg K C) := by
  have nd := sc_take_beginning.nd
  refine F.ok sc_take_beginning (fun vs H Q E h => ?_) (fun cdv A outer s H vs Q E hr h => ?_)
  · obtain ⟨p, l, r, i, o, t, rm, rfl, _⟩ := h
    rfl
  obtain ⟨p, l, r, i, o, t, rm, rfl, hrm, rd, hi, hl, ht, hd, qq⟩ := h
  obtain ⟨ft, dt, Gt, mt, bt⟩ := R.take
  obtain ⟨fa, da, Ga, ma, ba⟩ := R.tname
  obtain ⟨fx, dxx, Gx, gx, Kx, bx⟩ := X
  have T := R.T
  refine ⟨_, (pss_cons (ps_if (pt_cmpR op_lt (pe_op op_sub (pv 2) pe_int) (pe_glob (v := .int 2) rfl mD ⟨_, rfl⟩) (nomark _))
      (pss_one ps_never)
      pss_nil)
      (pss_cons (ps_set (i := 3) nd rfl (.inl rfl) (pe_meth0 (pv 0) T.cl ma Ga hr ba .nil pass0))
      (pss_cons (ps_expr (pe_meth (pv 0) T.cl mt Gt hr bt .nil pass0 (pa_cons pe_str pa_nil)))
      (pss_one (ps_ret (pe_tup (pa_cons (pv 1) (pa_cons (pv 3) (pa_cons (pe_tup pa_nil) (pa_cons (pe_call Gx hr (by rfl) gx Kx bx .nil pass0 (pa_cons (pv 3) pa_nil)) pa_nil)))))))))), ?_⟩
  have tk : ∀ {i : Nat} {H : Hp}, RdAt C H p l i → ∃ dx, H p = some (.ins C dx (fl (S l) i)) := fun h => h
  obtain ⟨dx, hp⟩ := tk rd
  refine ⟨.int rm, rfl, rm, 1, rfl, rfl, rm - 1, 2, rfl, rfl, _, rfl, ?_⟩
  rw [decide_eq_false (show ¬ rm - 1 < 2 by omega)]
  refine iteF ⟨.ref p, rfl, p, dx, _, rfl, hp, nopl (by decide +kernel), p, l, (44 :: 32 :: r), t, i, rfl, rd, hi, hl, ht, hd, (Fo.c (.inr (.inr (.inl rfl)))).l26, fun H1 k1 r1 d1 e1 => ?_⟩
  obtain ⟨dx1, hp1⟩ := tk r1
  refine ⟨.ref p, rfl, p, dx1, _, rfl, hp1, nopl (by decide +kernel), p, l, [44, 32], r, _, rfl, r1, e1, d1, hl, fun H2 k2 r2 d2 e2 => ?_⟩
  refine ⟨.str o, rfl, .str t, rfl, small_le (show 0 ≤ 1000 by decide), fun b nb => ⟨.str t, rfl, t, rfl, fun H3 v s3 hv => ⟨small_le (show 4 ≤ 1000 by decide), fun a na => ?_⟩⟩⟩
  have sb := same_upd (o := .tup []) nb
  have sa := same_upd (o := .tup [.str o, .str t, .ref b, v]) na
  exact qq _ a _ ((k1.trans k2).trans (KeepR.of ((sb.trans s3).trans sa))) (((r2.same sb).same s3).same sa) d2 e2 (.inl (.inl upd_same))
    (.cons (.str o) (.cons (.str t) (.cons (.tup (.inl (.inl (sa _ _ (s3 _ _ upd_same)))) .nil) (.cons ((dd_of _ _ (by rfl) hv).keep (KeepO.of sa)) .nil))))
abbrev s_take_arguments : Stmt := topS 48
theorem sc_take_arguments : FnScope ["reader", "many", "room", "found"] ["reader", "many", "room"] (defScope s_take_arguments) := ⟨rfl, rfl, rfl, by decide +kernel, rfl, by decide +kernel, by decide +kernel⟩
def sp_targ (K : PySem.W.Frag) (C : Addr) (n : Nat) : Sp := fun vs H Q _ => ∃ (p : Addr) (l r : List Nat) (i m : Nat) (xs : List PyData) (ls : List (List Nat)) (rm : Int), vs = [.ref p, .int (m : Int), .int rm] ∧ (n : Int) + 1 ≤ rm ∧ RdAt C H p l i ∧ i ≤ l.length ∧ l.length ≤ 8000000 ∧ xs.length = m ∧ ls.length = xs.length ∧ 1 ≤ m ∧ m ≤ 3 ∧
  (∀ q, q ∈ xs.zip ls → Tx n q.1 q.2) ∧ l.drop i = commas ls ++ r ∧ Fo r ∧
  ∀ H' L us, KeepR p H H' → RdAt C H' p l (i + (commas ls).length) → l.drop (i + (commas ls).length) = r → i + (commas ls).length ≤ l.length → H' L = some (.lst us) → DdAll K F0 H' us xs → Q (.ref L) H'
/-- what was read, and what is still to read -/
def AInv (K : PySem.W.Frag) (C : Addr) (n : Nat) (p L : Addr) (l r : List Nat) (k m : Nat) (rm : Int) (xs : List PyData) (H0 : Hp) (q : Nat) (σ : L2.St) (H : Hp) : Prop :=
  ∃ (us : List V) (as bs : List PyData) (ms : List (List Nat)) (j : Nat), σ = [some (.ref p), some (.int (m : Int)), some (.int rm), some (.ref L)] ∧ H L = some (.lst us) ∧ DdAll K F0 H us as ∧ xs = as ++ bs ∧ bs.length = q ∧ ms.length = bs.length ∧ (∀ q, q ∈ bs.zip ms → Tx n q.1 q.2) ∧
    RdAt C H p l j ∧ j ≤ l.length ∧ l.drop j = cR ms ++ r ∧ j + (cR ms).length = k ∧ KeepR p H0 H
theorem ok_take_arguments {f C : Addr} {fd : FuncData} {k n : Nat} (F : Fun K "take_arguments" "take_arguments" s_take_arguments f fd) (R : RdM P w K mg base C k) (X : DF P w K mg base "take_expression" ["reader", "room"] (sp_texp K C n) k)
    (mlen : mg "len" = none) : FnOk P w K mg base CX0 (k + 1) f fd ["reader", "many", "room"] (sp_targ K C n) := by
  have nd := sc_take_arguments.nd
  refine F.ok sc_take_arguments (fun vs H Q E h => ?_) (fun cdv A outer s H vs Q E hr h => ?_)
  · obtain ⟨p, l, r, i, m, xs, ls, rm, rfl, _⟩ := h
    rfl
  obtain ⟨p, l, r, i, m, xs, ls, rm, rfl, hrm, rd, hi, hl, hxm, hlx, hm1, hm3, hts, hd, hr', qq⟩ := h
  obtain ⟨ft, dt, Gt, mt, bt⟩ := R.take
  obtain ⟨fx, dxx, Gx, gx, Kx, bx⟩ := X
  have T := R.T
  refine ⟨_, (pss_cons (ps_set (i := 3) nd rfl (.inl rfl) (pe_lst (pa_cons (pe_call Gx hr (by rfl) gx Kx bx .nil pass0 (pa_cons (pv 0) (pa_cons (pe_op op_sub (pv 2) pe_int) pa_nil))) pa_nil)))
      (pss_cons (ps_while PassesOwn.never (pt_cmpR op_lt (pe_callB call_len_seq (by rfl) mlen PySem.boot_len (pa_cons (pv 3) pa_nil)) (pv 1) (nomark _))
      (pss_cons (ps_expr (pe_meth (pv 0) T.cl mt Gt hr bt .nil pass0 (pa_cons pe_str pa_nil)))
        (pss_one (ps_expr (pe_bm PySem.F.plainAttrs_list PySem.F.slot_list_append PySem.F.type_list_append mt_append (pv 3) (pa_cons (pe_call Gx hr (by rfl) gx Kx bx .nil pass0 (pa_cons (pv 0) (pa_cons (pe_op op_sub (pv 2) pe_int) pa_nil))) pa_nil))))))
      (pss_one (ps_ret (pv 3))))), ?_⟩
  have tk : ∀ {i : Nat} {H : Hp}, RdAt C H p l i → ∃ dx, H p = some (.ins C dx (fl (S l) i)) := fun h => h
  obtain ⟨dx, hp⟩ := tk rd
  obtain ⟨x, xs', rfl⟩ : ∃ x xs', xs = x :: xs' := by
    cases xs with
    | nil => rw [List.length_nil] at hxm; omega
    | cons x xs' => exact ⟨x, xs', rfl⟩
  obtain ⟨l1, ls', rfl⟩ : ∃ x xs', ls = x :: xs' := by
    cases ls with
    | nil => cases hlx
    | cons x xs' => exact ⟨x, xs', rfl⟩
  rw [commas_cons] at hd qq
  rw [List.append_assoc] at hd
  have hx : Tx n x l1 := hts (x, l1) (by rw [List.zip_cons_cons]; exact List.mem_cons_self)
  refine ⟨.ref p, rfl, .int rm, rfl, rm, 1, rfl, rfl, p, l, l1, cR ls' ++ r, i, x, rm - 1, rfl, by omega, rd, hi, hl, hx, hd, fo_cR _ hr', fun H1 v1 k1 r1 d1 e1 hv1 => ⟨small_le (show 1 ≤ 1000 by decide), fun L nL => ?_⟩⟩
  have sL := same_upd (o := .lst [v1]) nL
  have nL0 : ∀ o, H L = some o → L = p := fun o e => Classical.byContradiction fun hne => by
    have := k1 _ _ hne e
    rw [nL] at this
    cases this
  have hLp : L ≠ p := fun e => by
    obtain ⟨dx1, hp1⟩ := tk r1
    rw [e, hp1] at nL
    cases nL
  refine ⟨AInv K C n p L l r (i + (l1 ++ cR ls').length) m rm (x :: xs') H, ⟨xs'.length, [v1], [x], xs', ls', _, rfl, upd_same, .cons (hv1.keep (KeepO.of sL)) .nil, rfl, rfl, by simpa using hlx, fun q hq => hts q (by rw [List.zip_cons_cons]; exact List.mem_cons_of_mem _ hq), r1.same sL, e1, d1, ?_, k1.trans (KeepR.of sL)⟩, ?_⟩
  · rw [List.length_append]
    omega
  rintro q σ H' ⟨us, as, bs, ms, j, rfl, hL, hA, exs, hq, hms, htb, rj, hj, dj, ej, kk⟩
  have lA := hA.len
  have lx : as.length + bs.length = m := by rw [← hxm, exs, List.length_append]
  refine ⟨.ref L, rfl, L, us, rfl, .inl (.inl (.inl hL)), .int (m : Int), rfl, (us.length : Int), (m : Int), rfl, rfl, _, rfl, ?_⟩
  cases bs with
  | nil =>
    rw [List.length_nil] at lx
    rw [decide_eq_false (show ¬ (us.length : Int) < (m : Int) by omega)]
    rw [List.append_nil] at exs
    obtain rfl : ms = [] := List.length_eq_zero_iff.mp hms
    have ej : j = i + (l1 ++ cR ls').length := ej
    subst ej
    subst exs
    exact iteF ⟨.ref L, rfl, qq H' L us kk rj dj hj hL hA⟩
  | cons y bs =>
    rw [List.length_cons] at lx
    rw [decide_eq_true (show (us.length : Int) < (m : Int) by omega)]
    obtain ⟨l2, ms', rfl⟩ : ∃ x xs', ms = x :: xs' := by
      cases ms with
      | nil => cases hms
      | cons x xs' => exact ⟨x, xs', rfl⟩
    have dj' : l.drop j = [44, 32] ++ (l2 ++ (cR ms' ++ r)) := by
      rw [dj, cR, List.cons_append, List.cons_append, List.append_assoc]
      rfl
    have hy : Tx n y l2 := htb (y, l2) (by rw [List.zip_cons_cons]; exact List.mem_cons_self)
    obtain ⟨dxj, hpj⟩ := tk rj
    refine iteT ⟨fun σ' H'' => ∃ q', q' < q ∧ AInv K C n p L l r (i + (l1 ++ cR ls').length) m rm (x :: xs') H q' σ' H'', fun σ' H'' h => h, ?_⟩
    refine ⟨.ref p, rfl, p, dxj, _, rfl, hpj, nopl (by decide +kernel), p, l, [44, 32], l2 ++ (cR ms' ++ r), j, rfl, rj, hj, dj', hl, fun H2 k2 r2 d2 e2 => ?_⟩
    have hL2 := k2 _ _ hLp hL
    refine ⟨.ref L, rfl, .inl ⟨rfl, _, .inl (.inl hL2)⟩, .ref p, rfl, .int rm, rfl, rm, 1, rfl, rfl, p, l, l2, cR ms' ++ r, _, y, rm - 1, rfl, by omega, r2, e2, hl, hy, d2, fo_cR _ hr', fun H3 v3 k3 r3 d3 e3 hv3 => ?_⟩
    have hL3 := k3 _ _ hLp hL2
    have k4 : KeepT H3 (upd H3 L (.lst (us ++ [v3]))) := KeepT.lst hL3
    refine ⟨L, us, v3, rfl, rfl, hL3, small1000 (by omega), bs.length, by rw [← hq, List.length_cons]; omega, us ++ [v3], as ++ [y], bs, ms', j + ([44, 32] : List Nat).length + l2.length, rfl, upd_same, ?_, ?_, rfl, by simpa using hms, fun q hq => htb q (by rw [List.zip_cons_cons]; exact List.mem_cons_of_mem _ hq), ?_, e3, d3, ?_, ?_⟩
    · exact DdAll.app ((hA.keep (rj.o (k2.trans k3))).keep (kf0 k4)) (.cons (hv3.keep (kf0 k4)) .nil)
    · rw [exs, List.append_assoc]
      rfl
    · obtain ⟨dx3, hp3⟩ := r3
      exact ⟨dx3, by rw [upd_ne hLp.symm]; exact hp3⟩
    · rw [← ej, cR]
      simp only [List.length_cons, List.length_append, List.length_nil]
      omega
    · intro b o hb e
      by_cases hbL : b = L
      · subst hbL
        exact absurd (nL0 o e) hb
      · rw [upd_ne hbL]
        exact k3 _ _ hb (k2 _ _ hb (kk _ _ hb e))
end
end L10

/-! expressions are read: calls, all -/
namespace L10
open PySem PySem.Spec PyProof.Rows L2 GR AD RZ WX ZE TX RVT
open SX (S S_cat S_len S_inj)
open _root_.StX (pa_star)
section
variable {P : Program} {w : World} {K : PySem.W.Frag} {mg : Str → Option Value} {base : Heap}
abbrev s_take_call : Stmt := topS 46
theorem sc_take_call : FnScope ["reader", "word", "room", "beginning", "arguments"] ["reader", "word", "room"] (defScope s_take_call) := ⟨rfl, rfl, rfl, by decide +kernel, rfl, by decide +kernel, by decide +kernel⟩
def sp_tcall (K : PySem.W.Frag) (C : Addr) (n : Nat) : Sp := fun vs H Q _ => ∃ (p : Addr) (l l' r : List Nat) (i : Nat) (d : PyData) (o : Str) (rm : Int), vs = [.ref p, .str o, .int rm] ∧ (n : Int) + 1 ≤ rm ∧ RdAt C H p l i ∧ i ≤ l.length ∧ l.length ≤ 8000000 ∧ Cl n o d l' ∧ l.drop i = l' ++ r ∧
  ∀ H' v, KeepR p H H' → RdAt C H' p l (i + l'.length) → l.drop (i + l'.length) = r → i + l'.length ≤ l.length → Dd K F0 H' v d → Q v H'
/-- what is begun, and the arguments that follow -/
inductive Bg (n : Nat) (o : Str) : PyData → List Nat → List PyData → List PyData → List (List Nat) → Prop
  | mk (ds xs : List PyData) (ls : List (List Nat)) (u : List Nat) : ls.length = xs.length → (∀ p, p ∈ xs.zip ls → Tx n p.1 p.2) → (o, xs.length) ∈ argk → ds.length ≤ 4 → Bg n o (.tuple (ds ++ xs)) (40 :: (u ++ (commas ls ++ [41]))) ds xs ls
theorem ok_take_call {f C aA aG : Addr} {es : Array DictEntry} {nA : Nat} {fd : FuncData} {k n : Nat} (F : Fun K "take_call" "take_call" s_take_call f fd) (R : RdM P w K mg base C k)
    (XB : DF P w K mg base "take_beginning" ["reader", "word", "room"] (sp_tbeg K C) k) (XA : DF P w K mg base "take_arguments" ["reader", "many", "room"] (sp_targ K C n) k)
    (mA : mg "ARGUMENTS" = some (.ref aA)) (D : ArgT K w aA es nA) (mG : mg "AGGREGATES" = some (.ref aG)) (TG : KTx K aG aggW) : FnOk P w K mg base CX0 (k + 1) f fd ["reader", "word", "room"] (sp_tcall K C n) := by
  have nd := sc_take_call.nd
  refine F.ok sc_take_call (fun vs H Q E h => ?_) (fun cdv A outer s H vs Q E hr h => ?_)
  · obtain ⟨p, l, l', r, i, d, o, rm, rfl, _⟩ := h
    rfl
  obtain ⟨p, l, l', r, i, d, o, rm, rfl, hrm, rd, hi, hl, hc, hd, qq⟩ := h
  obtain ⟨ft, dt, Gt, mt, bt⟩ := R.take
  obtain ⟨fB, dB, GB, gB, KB, bB⟩ := XB
  obtain ⟨fA, dA, GA, gA, KA, bA⟩ := XA
  have T := R.T
  refine ⟨_, (pss_cons (ps_if (pt_cmpR (op_notIn_kd D.kd) (pv 1) (pe_glob (v := .ref aA) rfl mA rfl) (by rfl))
      (pss_one ps_never)
      pss_nil)
      (pss_cons (ps_expr (pe_meth (pv 0) T.cl mt Gt hr bt .nil pass0 (pa_cons pe_str pa_nil)))
      (Evl.pss_cut (ps_if (pt_cmpR op_in_seq (pv 1) (pe_glob (v := .ref aG) rfl mG rfl) (by rfl))
      (pss_one (ps_set (i := 3) nd rfl (.inl rfl) (pe_call GB hr (by rfl) gB KB bB .nil pass0 (pa_cons (pv 0) (pa_cons (pv 1) (pa_cons (pv 2) pa_nil))))))
      (pss_one (ps_set (i := 3) nd rfl (.inl rfl) (pe_tup (pa_cons (pv 1) pa_nil)))))
      (pss_cons (ps_set (i := 4) nd rfl (.inl rfl) (pe_call GA hr (by rfl) gA KA bA .nil pass0 (pa_cons (pv 0) (pa_cons (pe_ix ix_kdict (pe_glob (v := .ref aA) rfl mA rfl) (pv 1) (fun _ _ => rfl)) (pa_cons (pv 2) pa_nil)))))
      (pss_cons (ps_expr (pe_meth (pv 0) T.cl mt Gt hr bt .nil pass0 (pa_cons pe_str pa_nil)))
      (pss_one (ps_ret (pe_tup (pa_star (pv 3) (pa_star (pv 4) pa_nil)))))))))), ?_⟩
  have tk : ∀ {i : Nat} {H : Hp}, RdAt C H p l i → ∃ dx, H p = some (.ins C dx (fl (S l) i)) := fun h => h
  obtain ⟨dx, hp⟩ := tk rd
  have hk : ∃ c, (o, c) ∈ argk := by
    cases hc with
    | call xs ls ho _ _ => exact ⟨_, List.mem_append_left ([("count", 1), ("sum", 2), ("most", 3), ("first", 2)] : List (Str × Nat)) ho⟩
    | agg t xs ls _ ho _ _ _ => exact ⟨_, List.mem_append_right ([("if", 3), ("at", 2)] : List (Str × Nat)) ho⟩
  obtain ⟨c, hk⟩ := hk
  obtain ⟨tc, hn⟩ := D.yes o c hk
  obtain ⟨l0, rfl⟩ : ∃ l0, l' = 40 :: l0 := by
    cases hc with
    | call xs ls ho _ _ => exact ⟨_, rfl⟩
    | agg t xs ls _ ho _ _ _ => exact ⟨_, rfl⟩
  refine ⟨.str o, rfl, o, _, rfl, rfl, hn, _, rfl, iteF ⟨.ref p, rfl, p, dx, _, rfl, hp, nopl (by decide +kernel), p, l, [40], l0 ++ r, i, rfl, rd, hi, hd, hl, fun H1 k1 r1 d1 e1 => ?_⟩⟩
  obtain ⟨dx1, hp1⟩ := tk r1
  refine ⟨fun σ' H' => ∃ (b : Addr) (ws : List V) (ds xs : List PyData) (ls : List (List Nat)) (j : Nat), σ' = [some (.ref p), some (.str o), some (.int rm), some (.ref b), none] ∧ SqT K H' b ws ∧ DdAll K F0 H' ws ds ∧ ds.length ≤ 4 ∧ d = .tuple (ds ++ xs) ∧ ls.length = xs.length ∧ (∀ p, p ∈ xs.zip ls → Tx n p.1 p.2) ∧
    (o, xs.length) ∈ argk ∧ RdAt C H' p l j ∧ j ≤ l.length ∧ l.drop j = commas ls ++ ([41] ++ r) ∧ j + (commas ls).length + 1 = i + (40 :: l0).length ∧ KeepR p H H', ?_, ?_⟩
  · refine ⟨.str o, rfl, aG, aggW.map V.str, rfl, .inr (TG H1), rfl, flat_strsW _, _, rfl, ?_⟩
    show if inV (.str o) (aggW.map V.str) = true then _ else _
    rw [in_strs]
    generalize el0 : 40 :: l0 = l9 at *
    cases hc with
    | call xs ls ho hl1 hts =>
      have n6 : o ∉ aggW := by
        simp only [callk, List.mem_cons, List.not_mem_nil, or_false, Prod.mk.injEq] at ho
        rcases ho with ⟨rfl, e⟩ | ⟨rfl, e⟩ <;> decide
      rw [decide_eq_false n6]
      injection el0 with _ el0
      subst el0
      refine iteF ⟨.str o, rfl, small_le (show 1 ≤ 1000 by decide), fun b nb => ?_⟩
      have sb := same_upd (o := .tup [.str o]) nb
      refine ⟨b, [.str o], [.str o], xs, ls, i + 1, rfl, .inl (.inl upd_same), .cons (.str o) .nil, (by show 1 ≤ 4; decide), rfl, hl1, hts, List.mem_append_left ([("count", 1), ("sum", 2), ("most", 3), ("first", 2)] : List (Str × Nat)) ho, r1.same sb, e1, ?_, ?_, k1.trans (KeepR.of sb)⟩
      · rw [← List.append_assoc]
        exact d1
      · simp only [List.length_cons, List.length_append, List.length_nil]
        omega
    | agg t xs ls h2 ho ht hl1 hts =>
      have n6 : o ∈ aggW := by
        simp only [aggn, List.mem_cons, List.not_mem_nil, or_false, Prod.mk.injEq] at ho
        rcases ho with ⟨rfl, e⟩ | ⟨rfl, e⟩ | ⟨rfl, e⟩ | ⟨rfl, e⟩ <;> decide
      rw [decide_eq_true n6]
      injection el0 with _ el0
      subst el0
      refine iteT ⟨.ref p, rfl, .str o, rfl, .int rm, rfl, p, l, (commas ls ++ [41]) ++ r, _, o, t, rm, rfl, by omega, r1, e1, hl, ht, ?_, fun H2 b ws k2 r2 d2 e2 hb hw => ?_⟩
      · rw [d1, List.append_assoc]
        rfl
      refine ⟨b, ws, [.str o, .str t, .tuple [], rowX t], xs, ls, _, rfl, hb, hw, (by show 4 ≤ 4; decide), rfl, hl1, hts, List.mem_append_right ([("if", 3), ("at", 2)] : List (Str × Nat)) ho, r2, e2, ?_, ?_, k1.trans k2⟩
      · rw [← List.append_assoc]
        exact d2
      · simp only [List.length_cons, List.length_append, List.length_nil]
        omega
  rintro σ' H3 ⟨b, ws, ds, xs, ls, j, rfl, hb, hw, hds, rfl, hlx, hts, hok, r3, e3, d3, ej, k3⟩
  obtain ⟨t3, hn3⟩ := D.yes _ _ hok
  have hxl : 1 ≤ xs.length ∧ xs.length ≤ 3 := by
    simp only [argk, List.mem_cons, List.not_mem_nil, or_false, Prod.mk.injEq] at hok
    omega
  refine ⟨.ref p, rfl, .str o, rfl, aA, o, .int (xs.length : Int), rfl, rfl, ⟨es, nA, _, D.kd.at_, D.kd.lit, hn3, ⟨_, rfl⟩⟩, .int rm, rfl, p, l, [41] ++ r, j, xs.length, xs, ls, rm, rfl, hrm, r3, e3, hl, rfl, hlx, hxl.1, hxl.2, hts, d3, Fo.c (.inr (.inl rfl)), fun H4 L us k4 r4 d4 e4 hL hu => ?_⟩
  obtain ⟨dx4, hp4⟩ := tk r4
  refine ⟨.ref p, rfl, p, dx4, _, rfl, hp4, nopl (by decide +kernel), p, l, [41], r, _, rfl, r4, e4, d4, hl, fun H5 k5 r5 d5 e5 => ?_⟩
  have k45 := k4.trans k5
  have hb5 : SqT K H5 b ws := (r3.o k45).seqt hb
  have hLp : L ≠ p := fun e => by
    rw [e, hp4] at hL
    cases hL
  have hL5 := k5 _ _ hLp hL
  refine ⟨.ref b, rfl, b, ws, rfl, .inl hb5, .ref L, rfl, L, us, rfl, .inr (.inl (.inl hL5)), ?_, fun a na => ?_⟩
  · have h1 := hw.len
    have h2 := hu.len
    exact Nat.le_trans (show (ws ++ (us ++ [])).length ≤ 10 by rw [List.length_append, List.length_append, List.length_nil]; omega) (small_le (by decide))
  have sa := same_upd (o := .tup (ws ++ (us ++ []))) na
  have ej' : j + (commas ls).length + ([41] : List Nat).length = i + (40 :: l0).length := ej
  rw [ej'] at r5 d5 e5
  refine qq _ _ ((k3.trans k45).trans (KeepR.of sa)) (r5.same sa) d5 e5 (.tup (.inl (.inl upd_same)) ?_)
  rw [List.append_nil] at sa ⊢
  exact DdAll.app ((hw.keep (r3.o k45)).keep (KeepO.of sa)) ((hu.keep (r4.o k5)).keep (KeepO.of sa))
/-- a text that begins with a word -/
inductive Wc (n : Nat) : PyData → Str → List Nat → Prop
  | key : Wc n (.tuple [.str "key"]) "key" []
  | var (z : Str) : Nm z → Wc n (.tuple [.str "var", .str z]) z []
  | cell (t v : Str) (x : PyData) (l : List Nat) : Nm t → Nm v → Tx n x l → Wc n (.tuple [.str "cell", .str t, x, .str v]) t (91 :: (l ++ (93 :: 46 :: wd v)))
  | call (o : Str) (d : PyData) (l : List Nat) : Cl n o d l → Wc n d o l
theorem low26 {u : List Nat} (h : u.all lowC = true) : ∀ c, c ∈ u → c ∈ wd L26 := fun c hc => by
  have := List.all_eq_true.mp h c hc
  unfold lowC at this
  rw [Bool.and_eq_true, decide_eq_true_eq, decide_eq_true_eq] at this
  exact low_L26 this
theorem argk_low {o : Str} {c : Nat} (h : (o, c) ∈ argk) : LowH (wd o) ∧ ∀ c, c ∈ wd o → c ∈ wd L26 := by
  simp only [argk, List.mem_cons, List.not_mem_nil, or_false, Prod.mk.injEq] at h
  rcases h with ⟨rfl, _⟩ | ⟨rfl, _⟩ | ⟨rfl, _⟩ | ⟨rfl, _⟩ | ⟨rfl, _⟩ | ⟨rfl, _⟩ <;> exact ⟨⟨_, _, rfl, by unfold Low; decide⟩, low26 (by decide +kernel)⟩
theorem Tx.split {n : Nat} {d : PyData} {l : List Nat} (h : Tx (n + 1) d l) : (∃ i : Int, -(10 ^ 18) ≤ i ∧ i ≤ 10 ^ 18 ∧ d = .tuple [.str "int", .int i] ∧ l = num i) ∨
    (∃ o x y l1 l2, o ∈ ops5 ∧ Tx n x l1 ∧ Tx n y l2 ∧ d = .tuple [.str o, x, y] ∧ l = 40 :: (l1 ++ (32 :: (wd o ++ (32 :: (l2 ++ [41])))))) ∨
    (∃ o l0, Wc n d o l0 ∧ l = wd o ++ l0 ∧ LowH (wd o) ∧ ∀ c, c ∈ wd o → c ∈ wd L26) := by
  cases h with
  | int _ i h1 h2 => exact .inl ⟨i, h1, h2, rfl, rfl⟩
  | key => exact .inr (.inr ⟨"key", [], .key, (List.append_nil _).symm, ⟨_, _, rfl, by unfold Low; decide⟩, low26 (by decide +kernel)⟩)
  | var _ z hz => exact .inr (.inr ⟨z, [], .var z hz, (List.append_nil _).symm, nm_lowH hz, nm_low hz⟩)
  | cell _ t v x l h1 h2 hx => exact .inr (.inr ⟨t, _, .cell t v x l h1 h2 hx, rfl, nm_lowH h1, nm_low h1⟩)
  | op _ o x y l m ho hx hy => exact .inr (.inl ⟨o, x, y, l, m, ho, hx, hy, rfl, rfl⟩)
  | call _ o xs ls ho hl hts =>
    have := argk_low (List.mem_append_left ([("count", 1), ("sum", 2), ("most", 3), ("first", 2)] : List (Str × Nat)) ho)
    exact .inr (.inr ⟨o, _, .call o _ _ (.call xs ls ho hl hts), rfl, this.1, this.2⟩)
  | agg _ o t xs ls h0 ho ht hl hts =>
    have := argk_low (List.mem_append_right ([("if", 3), ("at", 2)] : List (Str × Nat)) ho)
    exact .inr (.inr ⟨o, _, .call o _ _ (.agg t xs ls h0 ho ht hl hts), rfl, this.1, this.2⟩)
abbrev s_take_expression : Stmt := topS 43
theorem sc_take_expression : FnScope ["reader", "room", "word"] ["reader", "room"] (defScope s_take_expression) := ⟨rfl, rfl, rfl, by decide +kernel, rfl, by decide +kernel, by decide +kernel⟩
theorem ok_texp_step {f C : Addr} {fd : FuncData} {k n : Nat} (F : Fun K "take_expression" "take_expression" s_take_expression f fd) (R : RdM P w K mg base C k)
    (XO : DF P w K mg base "take_operation" ["reader", "room"] (sp_top K C n) k) (XC : DF P w K mg base "take_call" ["reader", "word", "room"] (sp_tcall K C n) k) (XL : DF P w K mg base "take_cell" ["reader", "table", "room"] (sp_tcell K C n) k)
    (XN : DF P w K mg base "is_name" ["thing"] (sp_isS K isN) k) : FnOk P w K mg base CX0 (k + 1) f fd ["reader", "room"] (sp_texp K C (n + 1)) := by
  have nd := sc_take_expression.nd
  refine F.ok sc_take_expression (fun vs H Q E h => ?_) (fun cdv A outer s H vs Q E hr h => ?_)
  · obtain ⟨p, l, l', r, i, d, rm, rfl, _⟩ := h
    rfl
  obtain ⟨p, l, l', r, i, d, rm, rfl, hrm, rd, hi, hl, ht, hd, hr', qq⟩ := h
  obtain ⟨fn, dn, Gn, mn, bn⟩ := R.next
  obtain ⟨fa, da, Ga, ma, ba⟩ := R.anext
  obtain ⟨fv, dv, Gv, mv, bv⟩ := R.tvalue
  obtain ⟨fw, dw, Gw, mw, bw⟩ := R.tword
  obtain ⟨fO, dO, GO, gO, KO, bO⟩ := XO
  obtain ⟨fC, dC, GC, gC, KC, bC⟩ := XC
  obtain ⟨fL, dL, GL, gL, KL, bL⟩ := XL
  obtain ⟨fN, dN, GN, gN, KN, bN⟩ := XN
  have T := R.T
  refine ⟨_, (pss_cons (ps_if (pt_cmpR op_eq (pv 1) pe_int (nomark _))
      (pss_one ps_never)
      pss_nil)
      (pss_cons (ps_if (pt_val (pe_meth (pv 0) T.cl mn Gn hr bn .nil pass0 (pa_cons pe_str pa_nil)))
      (pss_one (ps_ret (pe_call GO hr (by rfl) gO KO bO .nil pass0 (pa_cons (pv 0) (pa_cons (pv 1) pa_nil)))))
      pss_nil)
      (pss_cons (ps_if (pt_val (pe_meth (pv 0) T.cl ma Ga hr ba .nil pass0 (pa_cons pe_str pa_nil)))
      (pss_one (ps_ret (pe_tup (pa_cons pe_str (pa_cons (pe_meth0 (pv 0) T.cl mv Gv hr bv .nil pass0) pa_nil)))))
      pss_nil)
      (pss_cons (ps_set (i := 2) nd rfl (.inl rfl) (pe_meth0 (pv 0) T.cl mw Gw hr bw .nil pass0))
      (pss_cons (ps_if (pt_val (pe_meth (pv 0) T.cl mn Gn hr bn .nil pass0 (pa_cons pe_str pa_nil)))
      (pss_one (ps_ret (pe_call GC hr (by rfl) gC KC bC .nil pass0 (pa_cons (pv 0) (pa_cons (pv 2) (pa_cons (pv 1) pa_nil))))))
      pss_nil)
      (pss_cons (ps_if (pt_cmpR op_eq (pv 2) pe_str (nomark _))
      (pss_one (ps_ret (pe_tup (pa_cons pe_str pa_nil))))
      pss_nil)
      (pss_cons (ps_if (pt_not (pt_val (pe_call GN hr (by rfl) gN KN bN .nil pass0 (pa_cons (pv 2) pa_nil))))
      (pss_one ps_never)
      pss_nil)
      (pss_cons (ps_if (pt_val (pe_meth (pv 0) T.cl mn Gn hr bn .nil pass0 (pa_cons pe_str pa_nil)))
      (pss_one (ps_ret (pe_call GL hr (by rfl) gL KL bL .nil pass0 (pa_cons (pv 0) (pa_cons (pv 2) (pa_cons (pv 1) pa_nil))))))
      pss_nil)
      (pss_one (ps_ret (pe_tup (pa_cons pe_str (pa_cons (pv 2) pa_nil))))))))))))), ?_⟩
  have tk : ∀ {i : Nat} {H : Hp}, RdAt C H p l i → ∃ dx, H p = some (.ins C dx (fl (S l) i)) := fun h => h
  obtain ⟨dx, hp⟩ := tk rd
  have hrm' : (n : Int) + 1 ≤ rm := by
    have : ((n + 1 : Nat) : Int) = (n : Int) + 1 := rfl
    omega
  refine ⟨.int rm, rfl, rfl, _, rfl, ?_⟩
  rw [decide_eq_false (show ¬ V.int rm = V.int 0 from fun e => by injection e with e; omega)]
  refine iteF ⟨.ref p, rfl, p, dx, _, rfl, hp, nopl (by decide +kernel), p, l, [40], i, rfl, rd, hi, _, rfl, ?_⟩
  rw [hd]
  rcases ht.split with ⟨v, h1, h2, rfl, rfl⟩ | ⟨o, x, y, l1, l2, ho, hx, hy, rfl, rfl⟩ | ⟨o, l0, hW, rfl, hLow, h26⟩
  · rw [(num_no v r).1]
    refine iteF ⟨.ref p, rfl, p, dx, _, rfl, hp, nopl (by decide +kernel), p, l, SG, i, rfl, rd, hi, hl, _, rfl, ?_⟩
    rw [hd, (num_no v r).2]
    refine iteT ⟨.ref p, rfl, p, dx, _, rfl, hp, nopl (by decide +kernel), p, l, r, v, i, rfl, rd, hi, hl, h1, h2, hd, hr'.dg, fun H1 k1 r1 d1 e1 => ⟨small_le (show 2 ≤ 1000 by decide), fun a na => ?_⟩⟩
    have sa := same_upd (o := .tup [.str "int", .int v]) na
    exact qq _ _ (k1.trans (KeepR.of sa)) (r1.same sa) d1 e1 (.tup (.inl (.inl upd_same)) (.cons (.str _) (.cons (.int v) .nil)))
  · rw [show ([40] : List Nat).isPrefixOf (40 :: (l1 ++ (32 :: (wd o ++ (32 :: (l2 ++ [41]))))) ++ r) = true from rfl]
    exact iteT ⟨.ref p, rfl, .int rm, rfl, p, l, r, l1, l2, i, o, x, y, rm, rfl, hrm', rd, hi, hl, ho, hx, hy, hd, qq⟩
  rw [List.append_assoc] at hd
  rw [List.append_assoc, (hLow.app (r := l0 ++ r)).no.1]
  refine iteF ⟨.ref p, rfl, p, dx, _, rfl, hp, nopl (by decide +kernel), p, l, SG, i, rfl, rd, hi, hl, _, rfl, ?_⟩
  rw [hd, (hLow.app (r := l0 ++ r)).no.2]
  have hnx : nextIn L26 (l0 ++ r) = false := by
    cases hW with
    | key => exact hr'.l26
    | var z hz => exact hr'.l26
    | cell t v x l h1 h2 hx => exact (by decide +kernel : decide (91 ∈ wd L26) = false)
    | call o d l hc => cases hc <;> exact (by decide +kernel : decide (40 ∈ wd L26) = false)
  refine iteF ⟨.ref p, rfl, p, dx, _, rfl, hp, nopl (by decide +kernel), p, l, wd o, l0 ++ r, i, rfl, rd, hi, hl, hd, h26, hnx, fun H1 k1 r1 d1 e1 => ?_⟩
  rw [S_wd]
  obtain ⟨dx1, hp1⟩ := tk r1
  refine ⟨.ref p, rfl, p, dx1, _, rfl, hp1, nopl (by decide +kernel), p, l, [40], _, rfl, r1, e1, _, rfl, ?_⟩
  rw [d1]
  have ej : ∀ a b : List Nat, i + a.length + b.length = i + (a ++ b).length := fun a b => by
    rw [List.length_append]
    omega
  cases hW with
  | key =>
    rw [List.nil_append, hr'.no (.inl rfl)]
    refine iteF ⟨.str "key", rfl, rfl, _, rfl, ?_⟩
    rw [decide_eq_true rfl]
    refine iteT ⟨small_le (show 1 ≤ 1000 by decide), fun a na => ?_⟩
    have sa := same_upd (o := .tup [.str "key"]) na
    rw [List.append_nil] at qq
    exact qq _ _ (k1.trans (KeepR.of sa)) (r1.same sa) d1 e1 (.tup (.inl (.inl upd_same)) (.cons (.str _) .nil))
  | var z hz =>
    have hnk : o ≠ "key" := fun e => hz.2.2.2 (by rw [e]; decide)
    rw [List.nil_append, hr'.no (.inl rfl)]
    refine iteF ⟨.str o, rfl, rfl, _, rfl, ?_⟩
    rw [decide_eq_false (fun e => hnk (by injection e))]
    refine iteF ⟨.str o, rfl, .str o, .str o, F0, rfl, .str o, nm_sh hz, fun H2 s2 => ⟨_, rfl, ?_⟩⟩
    rw [isN_nm hz]
    have r2 := r1.same s2
    obtain ⟨dx2, hp2⟩ := tk r2
    refine iteF ⟨.ref p, rfl, p, dx2, _, rfl, hp2, nopl (by decide +kernel), p, l, [91], _, rfl, r2, e1, _, rfl, ?_⟩
    rw [d1, List.nil_append, hr'.no (.inr rfl)]
    refine iteF ⟨.str o, rfl, small_le (show 2 ≤ 1000 by decide), fun a na => ?_⟩
    have sa := same_upd (o := .tup [.str "var", .str o]) na
    rw [List.append_nil] at qq
    exact qq _ _ ((k1.trans (KeepR.of s2)).trans (KeepR.of sa)) (r2.same sa) d1 e1 (.tup (.inl (.inl upd_same)) (.cons (.str _) (.cons (.str o) .nil)))
  | cell _ v x l1 h1 h2 hx =>
    have hnk : o ≠ "key" := fun e => h1.2.2.2 (by rw [e]; decide)
    refine iteF ⟨.str o, rfl, rfl, _, rfl, ?_⟩
    rw [decide_eq_false (fun e => hnk (by injection e))]
    refine iteF ⟨.str o, rfl, .str o, .str o, F0, rfl, .str o, nm_sh h1, fun H2 s2 => ⟨_, rfl, ?_⟩⟩
    rw [isN_nm h1]
    have r2 := r1.same s2
    obtain ⟨dx2, hp2⟩ := tk r2
    refine iteF ⟨.ref p, rfl, p, dx2, _, rfl, hp2, nopl (by decide +kernel), p, l, [91], _, rfl, r2, e1, _, rfl, ?_⟩
    rw [d1]
    refine iteT ⟨.ref p, rfl, .str o, rfl, .int rm, rfl, p, l, r, l1, _, o, v, x, rm, rfl, hrm', r2, e1, hl, h2, hx, hr', d1, fun H3 u k3 r3 d3 e3 hu => ?_⟩
    rw [ej] at r3 d3 e3
    exact qq H3 u ((k1.trans (KeepR.of s2)).trans k3) r3 d3 e3 hu
  | call _ _ _ hc =>
    have h40 : ([40] : List Nat).isPrefixOf (l0 ++ r) = true := by cases hc <;> rfl
    rw [h40]
    refine iteT ⟨.ref p, rfl, .str o, rfl, .int rm, rfl, p, l, l0, r, _, d, o, rm, rfl, hrm', r1, e1, hl, hc, d1, fun H3 u k3 r3 d3 e3 hu => ?_⟩
    rw [ej] at r3 d3 e3
    exact qq H3 u (k1.trans k3) r3 d3 e3 hu
end
end L10

/-! statements are read -/
namespace L10
open PySem PySem.Spec PyProof.Rows L2 GR AD RZ WX ZE TX RVT
open SX (S S_cat S_len S_inj)
abbrev tLet : List Nat := [108, 101, 116, 32]
abbrev tEq : List Nat := [32, 61, 32]
abbrev tPut : List Nat := [112, 117, 116, 32]
abbrev tEach : List Nat := [101, 97, 99, 104, 32]
abbrev tIf : List Nat := [32, 105, 102, 32]
abbrev tP2 : List Nat := [32, 112, 117, 116, 32]
abbrev tBr : List Nat := [93, 46]
/-- a plain statement and its text -/
inductive Sx (n : Nat) : PyData → List Nat → Prop
  | let_ (z : Str) (x : PyData) (l : List Nat) : Nm z → Tx n x l → Sx n (.tuple [.str "let", .str z, x]) (tLet ++ (wd z ++ (tEq ++ l)))
  | one (o : Str) (x : PyData) (l : List Nat) : o = "need" ∨ o = "tell" → Tx n x l → Sx n (.tuple [.str o, x]) (wd o ++ ([32] ++ l))
  | put (t c : Str) (k x : PyData) (l m : List Nat) : Nm t → Nm c → Tx n k l → Tx n x m → Sx n (.tuple [.str "put", .str t, k, .str c, x]) (tPut ++ (wd t ++ ([91] ++ (l ++ (tBr ++ (wd c ++ (tEq ++ m)))))))
  | each (t c : Str) (k x : PyData) (l m : List Nat) : Nm t → Nm c → Tx n k l → Tx n x m → Sx n (.tuple [.str "each", .str t, k, .str c, x]) (tEach ++ (wd t ++ (tIf ++ (l ++ (tP2 ++ (wd c ++ (tEq ++ m)))))))
theorem end_of {l : List Nat} {j : Nat} (d : l.drop j = []) (e : j ≤ l.length) : j = l.length := by
  have := congrArg List.length d
  rw [List.length_drop, List.length_nil] at this
  omega
section
variable {P : Program} {w : World} {K : PySem.W.Frag} {mg : Str → Option Value} {base : Heap}
theorem ok_texp_zero {f C : Addr} {fd : FuncData} {k : Nat} (F : Fun K "take_expression" "take_expression" s_take_expression f fd) : FnOk P w K mg base CX0 (k + 1) f fd ["reader", "room"] (sp_texp K C 0) := by
  refine F.ok sc_take_expression (fun vs H Q E h => ?_) (fun cdv A outer s H vs Q E hr h => ?_)
  · obtain ⟨p, l, l', r, i, d, rm, rfl, _⟩ := h
    rfl
  · obtain ⟨p, l, l', r, i, d, rm, rfl, hrm, rd, hi, hl, ht, _⟩ := h
    cases ht
/-- the reader of expressions, by their depth -/
theorem ok_texp {fE fO fL fC fB fA C aO aA aG : Addr} {dE dO dL dC dB dA : FuncData} {es : Array DictEntry} {nA : Nat} {k : Nat} {tk : Tok} (FE : Fun K "take_expression" "take_expression" s_take_expression fE dE) (gE : mg "take_expression" = some (.ref fE)) (KE : PySem.W.keepIn K (.ref fE) = true) (bE : Binds K dE ["reader", "room"] [])
    (FO : Fun K "take_operation" "take_operation" s_take_operation fO dO) (gO : mg "take_operation" = some (.ref fO)) (KO : PySem.W.keepIn K (.ref fO) = true) (bO : Binds K dO ["reader", "room"] [])
    (FL : Fun K "take_cell" "take_cell" s_take_cell fL dL) (gL : mg "take_cell" = some (.ref fL)) (KL : PySem.W.keepIn K (.ref fL) = true) (bL : Binds K dL ["reader", "table", "room"] [])
    (FC : Fun K "take_call" "take_call" s_take_call fC dC) (gC : mg "take_call" = some (.ref fC)) (KC : PySem.W.keepIn K (.ref fC) = true) (bC : Binds K dC ["reader", "word", "room"] [])
    (FB : Fun K "take_beginning" "take_beginning" s_take_beginning fB dB) (gB : mg "take_beginning" = some (.ref fB)) (KB : PySem.W.keepIn K (.ref fB) = true) (bB : Binds K dB ["reader", "word", "room"] [])
    (FA : Fun K "take_arguments" "take_arguments" s_take_arguments fA dA) (gA : mg "take_arguments" = some (.ref fA)) (KA : PySem.W.keepIn K (.ref fA) = true) (bA : Binds K dA ["reader", "many", "room"] [])
    (R : RdM P w K mg base C k) (XN : DF P w K mg base "is_name" ["thing"] (sp_isS K isN) k) (XR : DF P w K mg base "rows_of" ["table"] (sp_rows_of K) k)
    (mO : mg "OPERATIONS" = some (.ref aO)) (TO : KTx K aO ops5) (mA : mg "ARGUMENTS" = some (.ref aA)) (D : ArgT K w aA es nA) (mG : mg "AGGREGATES" = some (.ref aG)) (TG : KTx K aG aggW) (mD : mg "DEPTH_OF_ROWS" = some (.int 2 tk)) (mlen : mg "len" = none) :
    ∀ n, DF P w K mg base "take_expression" ["reader", "room"] (sp_texp K C n) (k + 1 + 3 * n)
  | 0 => ⟨fE, dE, ok_texp_zero FE, gE, KE, bE⟩
  | n + 1 => by
    have ih := ok_texp FE gE KE bE FO gO KO bO FL gL KL bL FC gC KC bC FB gB KB bB FA gA KA bA R XN XR mO TO mA D mG TG mD mlen n
    have XA : DF P w K mg base "take_arguments" ["reader", "many", "room"] (sp_targ K C n) (k + 1 + 3 * n + 1) := ⟨fA, dA, ok_take_arguments FA (R.up (by omega)) ih mlen, gA, KA, bA⟩
    have XB : DF P w K mg base "take_beginning" ["reader", "word", "room"] (sp_tbeg K C) (k + 1 + 3 * n + 1) := ⟨fB, dB, ok_take_beginning FB (R.up (by omega)) (XR.up (by omega)) mD, gB, KB, bB⟩
    have XC : DF P w K mg base "take_call" ["reader", "word", "room"] (sp_tcall K C n) (k + 1 + 3 * n + 1 + 1) := ⟨fC, dC, ok_take_call FC (R.up (by omega)) XB XA mA D mG TG, gC, KC, bC⟩
    have XO : DF P w K mg base "take_operation" ["reader", "room"] (sp_top K C n) (k + 1 + 3 * n + 1 + 1) := ⟨fO, dO, ok_take_operation FO (R.up (by omega)) (ih.up (by omega)) mO TO, gO, KO, bO⟩
    have XL : DF P w K mg base "take_cell" ["reader", "table", "room"] (sp_tcell K C n) (k + 1 + 3 * n + 1 + 1) := ⟨fL, dL, ok_take_cell FL (R.up (by omega)) (ih.up (by omega)), gL, KL, bL⟩
    exact ⟨fE, dE, ok_texp_step FE (R.up (show k ≤ k + 1 + 3 * n + 1 + 1 by omega)) XO XC XL (XN.up (show k ≤ k + 1 + 3 * n + 1 + 1 by omega)), gE, KE, bE⟩
abbrev s_take_let : Stmt := topS 65
theorem sc_take_let : FnScope ["reader", "variable"] ["reader"] (defScope s_take_let) := ⟨rfl, rfl, rfl, by decide +kernel, rfl, by decide +kernel, by decide +kernel⟩
def sp_tlet (K : PySem.W.Frag) (C : Addr) (n : Nat) : Sp := fun vs H Q _ => ∃ (p : Addr) (l l1 : List Nat) (i : Nat) (z : Str) (x : PyData), vs = [.ref p] ∧ RdAt C H p l i ∧ i ≤ l.length ∧ l.length ≤ 8000000 ∧ Nm z ∧ Tx n x l1 ∧ l.drop i = wd z ++ (tEq ++ l1) ∧
  ∀ H' v, KeepR p H H' → RdAt C H' p l l.length → Dd K F0 H' v (.tuple [.str "let", .str z, x]) → Q v H'
theorem ok_take_let {f C : Addr} {fd : FuncData} {k n : Nat} {tD : Tok} (F : Fun K "take_let" "take_let" s_take_let f fd) (R : RdM P w K mg base C k) (X : DF P w K mg base "take_expression" ["reader", "room"] (sp_texp K C n) k) (hn : n ≤ 30) (mD : mg "DEEPEST" = some (.int 30 tD)) :
    FnOk P w K mg base CX0 (k + 1) f fd ["reader"] (sp_tlet K C n) := by
  have nd := sc_take_let.nd
  refine F.ok sc_take_let (fun vs H Q E h => ?_) (fun cdv A outer s H vs Q E hr h => ?_)
  · obtain ⟨p, l, l1, i, z, x, rfl, _⟩ := h
    rfl
  obtain ⟨p, l, l1, i, z, x, rfl, rd, hi, hl, hz, hx, hd, qq⟩ := h
  obtain ⟨ft, dt, Gt, mt, bt⟩ := R.take
  obtain ⟨fa, da, Ga, ma, ba⟩ := R.tname
  obtain ⟨fx, dxx, Gx, gx, Kx, bx⟩ := X
  have T := R.T
  refine ⟨_, (pss_cons (ps_set (i := 1) nd rfl (.inl rfl) (pe_meth0 (pv 0) T.cl ma Ga hr ba .nil pass0))
      (pss_cons (ps_expr (pe_meth (pv 0) T.cl mt Gt hr bt .nil pass0 (pa_cons pe_str pa_nil)))
      (pss_one (ps_ret (pe_tup (pa_cons pe_str (pa_cons (pv 1) (pa_cons (pe_call Gx hr (by rfl) gx Kx bx .nil pass0 (pa_cons (pv 0) (pa_cons (pe_glob (v := .int 30) rfl mD ⟨_, rfl⟩) pa_nil))) pa_nil)))))))), ?_⟩
  have tk : ∀ {i : Nat} {H : Hp}, RdAt C H p l i → ∃ dx, H p = some (.ins C dx (fl (S l) i)) := fun h => h
  obtain ⟨dx, hp⟩ := tk rd
  refine ⟨.ref p, rfl, p, dx, _, rfl, hp, nopl (by decide +kernel), p, l, tEq ++ l1, z, i, rfl, rd, hi, hl, hz, hd, (Fo.c (.inl rfl)).l26, fun H1 k1 r1 d1 e1 => ?_⟩
  obtain ⟨dx1, hp1⟩ := tk r1
  refine ⟨.ref p, rfl, p, dx1, _, rfl, hp1, nopl (by decide +kernel), p, l, tEq, l1, _, rfl, r1, e1, d1, hl, fun H2 k2 r2 d2 e2 => ?_⟩
  refine ⟨.str z, rfl, .ref p, rfl, p, l, l1, [], _, x, 30, rfl, by omega, r2, e2, hl, hx, by rw [d2, List.append_nil], .inl rfl, fun H3 v k3 r3 d3 e3 hv => ⟨small_le (show 3 ≤ 1000 by decide), fun a na => ?_⟩⟩
  have sa := same_upd (o := .tup [.str "let", .str z, v]) na
  rw [end_of d3 e3] at r3
  exact qq _ _ (((k1.trans k2).trans k3).trans (KeepR.of sa)) (r3.same sa) (.tup (.inl (.inl upd_same)) (.cons (.str _) (.cons (.str z) (.cons (hv.keep (KeepO.of sa)) .nil))))
abbrev s_take_put : Stmt := topS 66
theorem sc_take_put : FnScope ["reader", "table", "key", "column"] ["reader"] (defScope s_take_put) := ⟨rfl, rfl, rfl, by decide +kernel, rfl, by decide +kernel, by decide +kernel⟩
abbrev s_take_each : Stmt := topS 67
theorem sc_take_each : FnScope ["reader", "table", "wanted", "column"] ["reader"] (defScope s_take_each) := ⟨rfl, rfl, rfl, by decide +kernel, rfl, by decide +kernel, by decide +kernel⟩
/-- put and each: alike but for the texts between -/
def sp_t4 (K : PySem.W.Frag) (C : Addr) (n : Nat) (o : Str) (u1 u2 : List Nat) : Sp := fun vs H Q _ => ∃ (p : Addr) (l l1 l2 : List Nat) (i : Nat) (t c : Str) (x y : PyData), vs = [.ref p] ∧ RdAt C H p l i ∧ i ≤ l.length ∧ l.length ≤ 8000000 ∧ Nm t ∧ Nm c ∧ Tx n x l1 ∧ Tx n y l2 ∧
  l.drop i = wd t ++ (u1 ++ (l1 ++ (u2 ++ (wd c ++ (tEq ++ l2))))) ∧
  ∀ H' v, KeepR p H H' → RdAt C H' p l l.length → Dd K F0 H' v (.tuple [.str o, .str t, x, .str c, y]) → Q v H'
theorem ok_take_put {f C : Addr} {fd : FuncData} {k n : Nat} {tD : Tok} (F : Fun K "take_put" "take_put" s_take_put f fd) (R : RdM P w K mg base C k) (X : DF P w K mg base "take_expression" ["reader", "room"] (sp_texp K C n) k) (hn : n ≤ 30) (mD : mg "DEEPEST" = some (.int 30 tD)) :
    FnOk P w K mg base CX0 (k + 1) f fd ["reader"] (sp_t4 K C n "put" [91] tBr) := by
  have nd := sc_take_put.nd
  refine F.ok sc_take_put (fun vs H Q E h => ?_) (fun cdv A outer s H vs Q E hr h => ?_)
  · obtain ⟨p, l, l1, l2, i, t, c, x, y, rfl, _⟩ := h
    rfl
  obtain ⟨p, l, l1, l2, i, t, c, x, y, rfl, rd, hi, hl, ht, hc, hx, hy, hd, qq⟩ := h
  obtain ⟨ft, dt, Gt, mt, bt⟩ := R.take
  obtain ⟨fa, da, Ga, ma, ba⟩ := R.tname
  obtain ⟨fx, dxx, Gx, gx, Kx, bx⟩ := X
  have T := R.T
  refine ⟨_, (pss_cons (ps_set (i := 1) nd rfl (.inl rfl) (pe_meth0 (pv 0) T.cl ma Ga hr ba .nil pass0))
      (pss_cons (ps_expr (pe_meth (pv 0) T.cl mt Gt hr bt .nil pass0 (pa_cons pe_str pa_nil)))
      (pss_cons (ps_set (i := 2) nd rfl (.inl rfl) (pe_call Gx hr (by rfl) gx Kx bx .nil pass0 (pa_cons (pv 0) (pa_cons (pe_glob (v := .int 30) rfl mD ⟨_, rfl⟩) pa_nil))))
      (pss_cons (ps_expr (pe_meth (pv 0) T.cl mt Gt hr bt .nil pass0 (pa_cons pe_str pa_nil)))
      (pss_cons (ps_set (i := 3) nd rfl (.inl rfl) (pe_meth0 (pv 0) T.cl ma Ga hr ba .nil pass0))
      (pss_cons (ps_expr (pe_meth (pv 0) T.cl mt Gt hr bt .nil pass0 (pa_cons pe_str pa_nil)))
      (pss_one (ps_ret (pe_tup (pa_cons pe_str (pa_cons (pv 1) (pa_cons (pv 2) (pa_cons (pv 3) (pa_cons (pe_call Gx hr (by rfl) gx Kx bx .nil pass0 (pa_cons (pv 0) (pa_cons (pe_glob (v := .int 30) rfl mD ⟨_, rfl⟩) pa_nil))) pa_nil)))))))))))))), ?_⟩
  have tk : ∀ {i : Nat} {H : Hp}, RdAt C H p l i → ∃ dx, H p = some (.ins C dx (fl (S l) i)) := fun h => h
  obtain ⟨dx, hp⟩ := tk rd
  refine ⟨.ref p, rfl, p, dx, _, rfl, hp, nopl (by decide +kernel), p, l, _, t, i, rfl, rd, hi, hl, ht, hd, (by exact (by decide +kernel : decide (91 ∈ wd L26) = false)), fun H1 k1 r1 d1 e1 => ?_⟩
  obtain ⟨dx1, hp1⟩ := tk r1
  refine ⟨.ref p, rfl, p, dx1, _, rfl, hp1, nopl (by decide +kernel), p, l, [91], _, _, rfl, r1, e1, d1, hl, fun H2 k2 r2 d2 e2 => ?_⟩
  refine ⟨.ref p, rfl, p, l, l1, _, _, x, 30, rfl, by omega, r2, e2, hl, hx, d2, Fo.c (.inr (.inr (.inr rfl))), fun H3 v3 k3 r3 d3 e3 hv3 => ?_⟩
  obtain ⟨dx3, hp3⟩ := tk r3
  refine ⟨.ref p, rfl, p, dx3, _, rfl, hp3, nopl (by decide +kernel), p, l, tBr, _, _, rfl, r3, e3, d3, hl, fun H4 k4 r4 d4 e4 => ?_⟩
  obtain ⟨dx4, hp4⟩ := tk r4
  refine ⟨.ref p, rfl, p, dx4, _, rfl, hp4, nopl (by decide +kernel), p, l, _, c, _, rfl, r4, e4, hl, hc, d4, (Fo.c (.inl rfl)).l26, fun H5 k5 r5 d5 e5 => ?_⟩
  obtain ⟨dx5, hp5⟩ := tk r5
  refine ⟨.ref p, rfl, p, dx5, _, rfl, hp5, nopl (by decide +kernel), p, l, tEq, l2, _, rfl, r5, e5, d5, hl, fun H6 k6 r6 d6 e6 => ?_⟩
  refine ⟨.str t, rfl, v3, rfl, .str c, rfl, .ref p, rfl, p, l, l2, [], _, y, 30, rfl, by omega, r6, e6, hl, hy, by rw [d6, List.append_nil], .inl rfl, fun H7 v7 k7 r7 d7 e7 hv7 => ⟨small_le (show 5 ≤ 1000 by decide), fun a na => ?_⟩⟩
  have sa := same_upd (o := .tup [.str "put", .str t, v3, .str c, v7]) na
  rw [end_of d7 e7] at r7
  have k37 := ((k4.trans k5).trans k6).trans k7
  exact qq _ _ ((((k1.trans k2).trans k3).trans k37).trans (KeepR.of sa)) (r7.same sa)
    (.tup (.inl (.inl upd_same)) (.cons (.str _) (.cons (.str t) (.cons ((hv3.keep (r3.o k37)).keep (KeepO.of sa)) (.cons (.str c) (.cons (hv7.keep (KeepO.of sa)) .nil))))))
theorem ok_take_each {f C : Addr} {fd : FuncData} {k n : Nat} {tD : Tok} (F : Fun K "take_each" "take_each" s_take_each f fd) (R : RdM P w K mg base C k) (X : DF P w K mg base "take_expression" ["reader", "room"] (sp_texp K C n) k) (hn : n ≤ 30) (mD : mg "DEEPEST" = some (.int 30 tD)) :
    FnOk P w K mg base CX0 (k + 1) f fd ["reader"] (sp_t4 K C n "each" tIf tP2) := by
  have nd := sc_take_each.nd
  refine F.ok sc_take_each (fun vs H Q E h => ?_) (fun cdv A outer s H vs Q E hr h => ?_)
  · obtain ⟨p, l, l1, l2, i, t, c, x, y, rfl, _⟩ := h
    rfl
  obtain ⟨p, l, l1, l2, i, t, c, x, y, rfl, rd, hi, hl, ht, hc, hx, hy, hd, qq⟩ := h
  obtain ⟨ft, dt, Gt, mt, bt⟩ := R.take
  obtain ⟨fa, da, Ga, ma, ba⟩ := R.tname
  obtain ⟨fx, dxx, Gx, gx, Kx, bx⟩ := X
  have T := R.T
  refine ⟨_, (pss_cons (ps_set (i := 1) nd rfl (.inl rfl) (pe_meth0 (pv 0) T.cl ma Ga hr ba .nil pass0))
      (pss_cons (ps_expr (pe_meth (pv 0) T.cl mt Gt hr bt .nil pass0 (pa_cons pe_str pa_nil)))
      (pss_cons (ps_set (i := 2) nd rfl (.inl rfl) (pe_call Gx hr (by rfl) gx Kx bx .nil pass0 (pa_cons (pv 0) (pa_cons (pe_glob (v := .int 30) rfl mD ⟨_, rfl⟩) pa_nil))))
      (pss_cons (ps_expr (pe_meth (pv 0) T.cl mt Gt hr bt .nil pass0 (pa_cons pe_str pa_nil)))
      (pss_cons (ps_set (i := 3) nd rfl (.inl rfl) (pe_meth0 (pv 0) T.cl ma Ga hr ba .nil pass0))
      (pss_cons (ps_expr (pe_meth (pv 0) T.cl mt Gt hr bt .nil pass0 (pa_cons pe_str pa_nil)))
      (pss_one (ps_ret (pe_tup (pa_cons pe_str (pa_cons (pv 1) (pa_cons (pv 2) (pa_cons (pv 3) (pa_cons (pe_call Gx hr (by rfl) gx Kx bx .nil pass0 (pa_cons (pv 0) (pa_cons (pe_glob (v := .int 30) rfl mD ⟨_, rfl⟩) pa_nil))) pa_nil)))))))))))))), ?_⟩
  have tk : ∀ {i : Nat} {H : Hp}, RdAt C H p l i → ∃ dx, H p = some (.ins C dx (fl (S l) i)) := fun h => h
  obtain ⟨dx, hp⟩ := tk rd
  refine ⟨.ref p, rfl, p, dx, _, rfl, hp, nopl (by decide +kernel), p, l, _, t, i, rfl, rd, hi, hl, ht, hd, (Fo.c (.inl rfl)).l26, fun H1 k1 r1 d1 e1 => ?_⟩
  obtain ⟨dx1, hp1⟩ := tk r1
  refine ⟨.ref p, rfl, p, dx1, _, rfl, hp1, nopl (by decide +kernel), p, l, tIf, _, _, rfl, r1, e1, d1, hl, fun H2 k2 r2 d2 e2 => ?_⟩
  refine ⟨.ref p, rfl, p, l, l1, _, _, x, 30, rfl, by omega, r2, e2, hl, hx, d2, Fo.c (.inl rfl), fun H3 v3 k3 r3 d3 e3 hv3 => ?_⟩
  obtain ⟨dx3, hp3⟩ := tk r3
  refine ⟨.ref p, rfl, p, dx3, _, rfl, hp3, nopl (by decide +kernel), p, l, tP2, _, _, rfl, r3, e3, d3, hl, fun H4 k4 r4 d4 e4 => ?_⟩
  obtain ⟨dx4, hp4⟩ := tk r4
  refine ⟨.ref p, rfl, p, dx4, _, rfl, hp4, nopl (by decide +kernel), p, l, _, c, _, rfl, r4, e4, hl, hc, d4, (Fo.c (.inl rfl)).l26, fun H5 k5 r5 d5 e5 => ?_⟩
  obtain ⟨dx5, hp5⟩ := tk r5
  refine ⟨.ref p, rfl, p, dx5, _, rfl, hp5, nopl (by decide +kernel), p, l, tEq, l2, _, rfl, r5, e5, d5, hl, fun H6 k6 r6 d6 e6 => ?_⟩
  refine ⟨.str t, rfl, v3, rfl, .str c, rfl, .ref p, rfl, p, l, l2, [], _, y, 30, rfl, by omega, r6, e6, hl, hy, by rw [d6, List.append_nil], .inl rfl, fun H7 v7 k7 r7 d7 e7 hv7 => ⟨small_le (show 5 ≤ 1000 by decide), fun a na => ?_⟩⟩
  have sa := same_upd (o := .tup [.str "each", .str t, v3, .str c, v7]) na
  rw [end_of d7 e7] at r7
  have k37 := ((k4.trans k5).trans k6).trans k7
  exact qq _ _ ((((k1.trans k2).trans k3).trans k37).trans (KeepR.of sa)) (r7.same sa)
    (.tup (.inl (.inl upd_same)) (.cons (.str _) (.cons (.str t) (.cons ((hv3.keep (r3.o k37)).keep (KeepO.of sa)) (.cons (.str c) (.cons (hv7.keep (KeepO.of sa)) .nil))))))
abbrev s_take_statement : Stmt := topS 64
theorem sc_take_statement : FnScope ["reader", "word"] ["reader"] (defScope s_take_statement) := ⟨rfl, rfl, rfl, by decide +kernel, rfl, by decide +kernel, by decide +kernel⟩
def sp_tst (K : PySem.W.Frag) (C : Addr) (n : Nat) : Sp := fun vs H Q _ => ∃ (p : Addr) (l : List Nat) (d : PyData), vs = [.ref p] ∧ RdAt C H p l 0 ∧ l.length ≤ 8000000 ∧ Sx n d l ∧ ∀ H' v, KeepR p H H' → RdAt C H' p l l.length → Dd K F0 H' v d → Q v H'
theorem ok_take_statement {f C : Addr} {fd : FuncData} {k n : Nat} {tD : Tok} (F : Fun K "take_statement" "take_statement" s_take_statement f fd) (R : RdM P w K mg base C k) (X : DF P w K mg base "take_expression" ["reader", "room"] (sp_texp K C n) k)
    (XL : DF P w K mg base "take_let" ["reader"] (sp_tlet K C n) k) (XP : DF P w K mg base "take_put" ["reader"] (sp_t4 K C n "put" [91] tBr) k) (XE : DF P w K mg base "take_each" ["reader"] (sp_t4 K C n "each" tIf tP2) k) (hn : n ≤ 30) (mD : mg "DEEPEST" = some (.int 30 tD)) :
    FnOk P w K mg base CX0 (k + 1) f fd ["reader"] (sp_tst K C n) := by
  have nd := sc_take_statement.nd
  refine F.ok sc_take_statement (fun vs H Q E h => ?_) (fun cdv A outer s H vs Q E hr h => ?_)
  · obtain ⟨p, l, d, rfl, _⟩ := h
    rfl
  obtain ⟨p, l, d, rfl, rd, hl, hs, qq⟩ := h
  obtain ⟨ft, dt, Gt, mt, bt⟩ := R.take
  obtain ⟨fa, da, Ga, ma, ba⟩ := R.tany
  obtain ⟨fx, dxx, Gx, gx, Kx, bx⟩ := X
  obtain ⟨fL, dL, GL, gL, KL, bL⟩ := XL
  obtain ⟨fP, dP, GP, gP, KP, bP⟩ := XP
  obtain ⟨fE, dE, GE, gE, KE, bE⟩ := XE
  have T := R.T
  refine ⟨_, (pss_cons (ps_set (i := 1) nd rfl (.inl rfl) (pe_meth (pv 0) T.cl ma Ga hr ba .nil pass0 (pa_cons (pe_tup (pa_cons pe_str (pa_cons pe_str (pa_cons pe_str (pa_cons pe_str (pa_cons pe_str pa_nil)))))) pa_nil)))
      (pss_cons (ps_expr (pe_meth (pv 0) T.cl mt Gt hr bt .nil pass0 (pa_cons pe_str pa_nil)))
      (pss_cons (ps_if (pt_cmpR op_eq (pv 1) pe_str (nomark _))
      (pss_one (ps_ret (pe_call GL hr (by rfl) gL KL bL .nil pass0 (pa_cons (pv 0) pa_nil))))
      pss_nil)
      (pss_cons (ps_if (pt_cmpR op_eq (pv 1) pe_str (nomark _))
      (pss_one (ps_ret (pe_call GP hr (by rfl) gP KP bP .nil pass0 (pa_cons (pv 0) pa_nil))))
      pss_nil)
      (pss_cons (ps_if (pt_cmpR op_eq (pv 1) pe_str (nomark _))
      (pss_one (ps_ret (pe_call GE hr (by rfl) gE KE bE .nil pass0 (pa_cons (pv 0) pa_nil))))
      pss_nil)
      (pss_one (ps_ret (pe_tup (pa_cons (pv 1) (pa_cons (pe_call Gx hr (by rfl) gx Kx bx .nil pass0 (pa_cons (pv 0) (pa_cons (pe_glob (v := .int 30) rfl mD ⟨_, rfl⟩) pa_nil))) pa_nil)))))))))), ?_⟩
  have tk : ∀ {i : Nat} {H : Hp}, RdAt C H p l i → ∃ dx, H p = some (.ins C dx (fl (S l) i)) := fun h => h
  obtain ⟨dx, hp⟩ := tk rd
  refine ⟨.ref p, rfl, p, dx, _, rfl, hp, nopl (by decide +kernel), small_le (show 5 ≤ 1000 by decide), fun t nt => ?_⟩
  have st := same_upd (o := .tup [.str "let", .str "need", .str "put", .str "each", .str "tell"]) nt
  have rt := rd.same st
  have ut : SqT K (upd H t (.tup [.str "let", .str "need", .str "put", .str "each", .str "tell"])) t ((["let", "need", "put", "each", "tell"] : List Str).map V.str) := .inl (.inl upd_same)
  revert st rt ut
  generalize upd H t (.tup [.str "let", .str "need", .str "put", .str "each", .str "tell"]) = H0
  intro st rt ut
  have tst : ∀ {w x : Str} {A B : Prop}, w ≠ x → B → (if decide (V.str w = V.str x) = true then A else B) := fun hne hB => by
    rw [decide_eq_false (fun e => hne (by injection e))]
    exact iteF hB
  have tyes : ∀ {w : Str} {A B : Prop}, A → (if decide (V.str w = V.str w) = true then A else B) := fun hA => by
    rw [decide_eq_true rfl]
    exact iteT hA
  cases hs with
  | let_ z x l1 hz hx =>
    refine ⟨p, t, _, [32] ++ (wd z ++ (tEq ++ l1)), 0, [], ["need", "put", "each", "tell"], "let", rfl, ut, rt, Nat.zero_le _, hl, (fun a ha => nomatch ha), by rfl, fun H1 k1 r1 d1 e1 => ?_⟩
    obtain ⟨dx1, hp1⟩ := tk r1
    refine ⟨.ref p, rfl, p, dx1, _, rfl, hp1, nopl (by decide +kernel), p, _, [32], wd z ++ (tEq ++ l1), _, rfl, r1, e1, d1, hl, fun H2 k2 r2 d2 e2 => ?_⟩
    exact ⟨.str "let", rfl, rfl, _, rfl, tyes ⟨.ref p, rfl, p, _, l1, _, z, x, rfl, r2, e2, hl, hz, hx, d2, fun H3 v k3 r3 hv => qq H3 v ((((KeepR.of st).trans k1).trans k2).trans k3) r3 hv⟩⟩
  | one o x l1 ho hx =>
    have hsp : ∃ as bs, (["let", "need", "put", "each", "tell"] : List Str) = as ++ o :: bs ∧ ∀ a, a ∈ as → ∀ r, (wd a).isPrefixOf (wd o ++ r) = false := by
      rcases ho with rfl | rfl
      · exact ⟨["let"], _, rfl, fun a ha r => by simp only [List.mem_cons, List.not_mem_nil, or_false] at ha; rcases ha with rfl; rfl⟩
      · exact ⟨["let", "need", "put", "each"], _, rfl, fun a ha r => by simp only [List.mem_cons, List.not_mem_nil, or_false] at ha; rcases ha with rfl | rfl | rfl | rfl <;> rfl⟩
    obtain ⟨as, bs, eo, hno⟩ := hsp
    have hne : o ≠ "let" ∧ o ≠ "put" ∧ o ≠ "each" := by
      rcases ho with rfl | rfl <;> exact ⟨by decide, by decide, by decide⟩
    refine ⟨p, t, _, [32] ++ l1, 0, as, bs, o, rfl, by rw [← eo]; exact ut, rt, Nat.zero_le _, hl, fun a ha => hno a ha _, by rfl, fun H1 k1 r1 d1 e1 => ?_⟩
    obtain ⟨dx1, hp1⟩ := tk r1
    refine ⟨.ref p, rfl, p, dx1, _, rfl, hp1, nopl (by decide +kernel), p, _, [32], l1, _, rfl, r1, e1, d1, hl, fun H2 k2 r2 d2 e2 => ?_⟩
    refine ⟨.str o, rfl, rfl, _, rfl, tst hne.1 ⟨.str o, rfl, rfl, _, rfl, tst hne.2.1 ⟨.str o, rfl, rfl, _, rfl, tst hne.2.2 ?_⟩⟩⟩
    refine ⟨.str o, rfl, .ref p, rfl, p, _, l1, [], _, x, 30, rfl, by omega, r2, e2, hl, hx, by rw [d2, List.append_nil], .inl rfl, fun H3 v k3 r3 d3 e3 hv => ⟨small_le (show 2 ≤ 1000 by decide), fun a na => ?_⟩⟩
    have sa := same_upd (o := .tup [.str o, v]) na
    rw [end_of d3 e3] at r3
    exact qq _ _ (((((KeepR.of st).trans k1).trans k2).trans k3).trans (KeepR.of sa)) (r3.same sa) (.tup (.inl (.inl upd_same)) (.cons (.str o) (.cons (hv.keep (KeepO.of sa)) .nil)))
  | put z c x y l1 l2 hz hc hx hy =>
    refine ⟨p, t, _, [32] ++ (wd z ++ ([91] ++ (l1 ++ (tBr ++ (wd c ++ (tEq ++ l2)))))), 0, ["let", "need"], ["each", "tell"], "put", rfl, ut, rt, Nat.zero_le _, hl, fun a ha => by simp only [List.mem_cons, List.not_mem_nil, or_false] at ha; rcases ha with rfl | rfl <;> rfl, by rfl, fun H1 k1 r1 d1 e1 => ?_⟩
    obtain ⟨dx1, hp1⟩ := tk r1
    refine ⟨.ref p, rfl, p, dx1, _, rfl, hp1, nopl (by decide +kernel), p, _, [32], wd z ++ ([91] ++ (l1 ++ (tBr ++ (wd c ++ (tEq ++ l2))))), _, rfl, r1, e1, d1, hl, fun H2 k2 r2 d2 e2 => ?_⟩
    exact ⟨.str "put", rfl, rfl, _, rfl, tst (by decide) ⟨.str "put", rfl, rfl, _, rfl, tyes ⟨.ref p, rfl, p, _, l1, l2, _, z, c, x, y, rfl, r2, e2, hl, hz, hc, hx, hy, d2, fun H3 v k3 r3 hv => qq H3 v ((((KeepR.of st).trans k1).trans k2).trans k3) r3 hv⟩⟩⟩
  | each z c x y l1 l2 hz hc hx hy =>
    refine ⟨p, t, _, [32] ++ (wd z ++ (tIf ++ (l1 ++ (tP2 ++ (wd c ++ (tEq ++ l2)))))), 0, ["let", "need", "put"], ["tell"], "each", rfl, ut, rt, Nat.zero_le _, hl, fun a ha => by simp only [List.mem_cons, List.not_mem_nil, or_false] at ha; rcases ha with rfl | rfl | rfl <;> rfl, by rfl, fun H1 k1 r1 d1 e1 => ?_⟩
    obtain ⟨dx1, hp1⟩ := tk r1
    refine ⟨.ref p, rfl, p, dx1, _, rfl, hp1, nopl (by decide +kernel), p, _, [32], wd z ++ (tIf ++ (l1 ++ (tP2 ++ (wd c ++ (tEq ++ l2))))), _, rfl, r1, e1, d1, hl, fun H2 k2 r2 d2 e2 => ?_⟩
    exact ⟨.str "each", rfl, rfl, _, rfl, tst (by decide) ⟨.str "each", rfl, rfl, _, rfl, tst (by decide) ⟨.str "each", rfl, rfl, _, rfl, tyes ⟨.ref p, rfl, p, _, l1, l2, _, z, c, x, y, rfl, r2, e2, hl, hz, hc, hx, hy, d2, fun H3 v k3 r3 hv => qq H3 v ((((KeepR.of st).trans k1).trans k2).trans k3) r3 hv⟩⟩⟩⟩
end
end L10

/-! statements and transactions are shown -/
namespace L10
open PySem PySem.Spec PyProof.Rows L2 GR AD RZ WX ZE TX RVT
open SX (S S_cat S_len S_inj)
/-- a statement's text, from the texts of its parts -/
inductive Fm : Str → List (List Nat) → List Nat → Prop
  | let_ (a b : List Nat) : Fm "let" [a, b] (tLet ++ (a ++ (tEq ++ b)))
  | one (o : Str) (a : List Nat) : o = "need" ∨ o = "tell" → Fm o [a] (wd o ++ ([32] ++ a))
  | put (a b c d : List Nat) : Fm "put" [a, b, c, d] (tPut ++ (a ++ ([91] ++ (b ++ (tBr ++ (c ++ (tEq ++ d)))))))
  | each (a b c d : List Nat) : Fm "each" [a, b, c, d] (tEach ++ (a ++ (tIf ++ (b ++ (tP2 ++ (c ++ (tEq ++ d)))))))
/-- the parts with their texts -/
def Pts (ps : List PyData) (ls : List (List Nat)) : Prop := ls.length = ps.length ∧ ∀ p, p ∈ ps.zip ls → Pc p.1 p.2
theorem Pts.nil : Pts [] [] := ⟨rfl, fun p hp => nomatch hp⟩
theorem Pts.cons {x : PyData} {l : List Nat} {ps : List PyData} {ls : List (List Nat)} (h : Pc x l) (t : Pts ps ls) : Pts (x :: ps) (l :: ls) := by
  refine ⟨by rw [List.length_cons, List.length_cons, t.1], fun p hp => ?_⟩
  rw [List.zip_cons_cons] at hp
  rcases List.mem_cons.mp hp with rfl | hp
  · exact h
  · exact t.2 p hp
theorem Pts.at {ps : List PyData} {ls : List (List Nat)} (h : Pts ps ls) {i : Nat} {x : PyData} (hx : ps[i]? = some x) : ∃ l, ls[i]? = some l ∧ Pc x l := by
  have hi : i < ps.length := (List.getElem?_eq_some_iff.mp hx).1
  have hl : i < ls.length := by rw [h.1]; exact hi
  refine ⟨ls[i], List.getElem?_eq_getElem hl, h.2 (x, ls[i]) ?_⟩
  refine List.mem_of_getElem? (i := i) ?_
  rw [List.getElem?_zip_eq_some]
  exact ⟨hx, List.getElem?_eq_getElem hl⟩
theorem Sx.parts {n : Nat} {d : PyData} {l : List Nat} (h : Sx n d l) : ∃ o ps ls, d = .tuple (.str o :: ps) ∧ Pts ps ls ∧ ps.length ≤ 4 ∧ Fm o ls l := by
  cases h with
  | let_ z x l1 hz hx => exact ⟨_, _, _, rfl, .cons (.str z) (.cons (.ex n x l1 hx) .nil), (by show 2 ≤ 4; decide), .let_ _ _⟩
  | one o x l1 ho hx => exact ⟨_, _, _, rfl, .cons (.ex n x l1 hx) .nil, (by show 1 ≤ 4; decide), .one o _ ho⟩
  | put t c x y l1 l2 ht hc hx hy => exact ⟨_, _, _, rfl, .cons (.str t) (.cons (.ex n x l1 hx) (.cons (.str c) (.cons (.ex n y l2 hy) .nil))), (by show 4 ≤ 4; decide), .put _ _ _ _⟩
  | each t c x y l1 l2 ht hc hx hy => exact ⟨_, _, _, rfl, .cons (.str t) (.cons (.ex n x l1 hx) (.cons (.str c) (.cons (.ex n y l2 hy) .nil))), (by show 4 ≤ 4; decide), .each _ _ _ _⟩
theorem len_cat (a b : Str) : (a ++ b).length = a.length + b.length := by
  rw [← S_wd a, ← S_wd b, S_cat, S_len, S_len, S_len, List.length_append]
abbrev SA (ls : List (List Nat)) : List V := ls.map fun l => V.str (S l)
section
variable {P : Program} {w : World} {K : PySem.W.Frag} {mg : Str → Option Value} {base : Heap}
abbrev s_show_statement : Stmt := topS 60
abbrev N_ss : List Str := ["statement", "word", "texts", "part"]
theorem sc_show_statement : FnScope N_ss ["statement"] (defScope s_show_statement) := ⟨rfl, rfl, rfl, by decide +kernel, rfl, by decide +kernel, by decide +kernel⟩
/-- a part is at hand, none too large -/
def PartsLe (d : PyData) (b : Nat) : Prop := ∀ ds, d = .tuple ds → ∀ y, y ∈ ds → sz y ≤ b
def sp_shst (K : PySem.W.Frag) : Sp := fun vs H Q _ => ∃ (v : V) (n : Nat) (d : PyData) (l : List Nat), vs = [v] ∧ Dd K F0 H v d ∧ Sx n d l ∧ l.length ≤ 1000000 ∧ PartsLe d 100000 ∧ ∀ H', Same H H' → Q (.str (S l)) H'
theorem Fm.le {o : Str} {ls : List (List Nat)} {l : List Nat} (h : Fm o ls l) : ∀ a, a ∈ ls → a.length ≤ l.length := by
  intro a ha
  cases h <;> simp only [List.mem_cons, List.not_mem_nil, or_false] at ha <;> simp only [List.length_append]
  · rcases ha with rfl | rfl <;> omega
  · subst ha; omega
  · rcases ha with rfl | rfl | rfl | rfl <;> omega
  · rcases ha with rfl | rfl | rfl | rfl <;> omega
theorem ok_show_statement {f fe : Addr} {fd de : FuncData} {k : Nat} (F : Fun K "show_statement" "show_statement" s_show_statement f fd) (G : FnOk P w K mg base CX0 k fe de ["expression"] (sp_show K)) (g : mg "show_expression" = some (.ref fe)) (Kf : PySem.W.keepIn K (.ref fe) = true) (b : Binds K de ["expression"] [])
    (misi : mg "isinstance" = none) (mstr : mg "str" = none) : FnOk P w K mg base CX0 (k + 1) f fd ["statement"] (sp_shst K) := by
  have nd := sc_show_statement.nd
  refine F.ok sc_show_statement (fun vs H Q E h => ?_) (fun cdv A outer s H vs Q E hr h => ?_)
  · obtain ⟨v, n, d, l, rfl, _⟩ := h
    rfl
  obtain ⟨v, n, d, l, rfl, hd, hs, hl, hsz, q⟩ := h
  refine ⟨_, (pss_cons (ps_set (i := 1) nd rfl (.inl rfl) (pe_ix ix_tup (pv 0) pe_int (fun _ _ => rfl)))
      (Evl.pss_cut (ps_setLc (i := 2) (own := [("part", 3)]) (tt := tYes) (te := L2.tIf (tB (tCB (rIsi K) (tCons (tVar 3) (tCons (tC (.ty "str")) tNil)))) (tVar 3) (tCall (sp_show K) [] E0 (tCons (tVar 3) tNil))) rfl nd rfl rfl (sw_true rfl rfl rfl (by decide +kernel)) (pi_tup (pe_slice L2.sl_tup (pv 0) (po_some pe_int) po_none)) (blkOk_by (N := N_ss) (sc := defScope s_show_statement) (by decide +kernel)) (fun _ _ _ _ _ => (pg_name (i := 3) nd rfl (Or.inl rfl))) (fun _ _ _ _ _ => pts_nil) (fun _ _ _ _ _ => (pe_ifExp (pt_val (pe_callB call_isi (by rfl) misi boot_isinstance (pa_cons (pv 3) (pa_cons (pe_bltn (v := .ty "str") (by rfl) mstr boot_str rfl) pa_nil)))) (pv 3) (pe_call G hr (by rfl) g Kf b .nil pass0 (pa_cons (pv 3) pa_nil)))))
      (pss_cons (ps_if (pt_cmpR op_eq (pv 1) pe_str (nomark _))
      (pss_one (ps_ret (pe_joined (.cons pe_str (.cons (pe_fmt (pe_ix ix_list (pv 2) pe_int (fun _ _ => rfl))) (.cons pe_str (.cons (pe_fmt (pe_ix ix_list (pv 2) pe_int (fun _ _ => rfl))) .nil)))))))
      pss_nil)
      (pss_cons (ps_if (pt_cmpR op_eq (pv 1) pe_str (nomark _))
      (pss_one (ps_ret (pe_joined (.cons pe_str (.cons (pe_fmt (pe_ix ix_list (pv 2) pe_int (fun _ _ => rfl))) (.cons pe_str (.cons (pe_fmt (pe_ix ix_list (pv 2) pe_int (fun _ _ => rfl))) (.cons pe_str (.cons (pe_fmt (pe_ix ix_list (pv 2) pe_int (fun _ _ => rfl))) (.cons pe_str (.cons (pe_fmt (pe_ix ix_list (pv 2) pe_int (fun _ _ => rfl))) .nil)))))))))))
      pss_nil)
      (pss_cons (ps_if (pt_cmpR op_eq (pv 1) pe_str (nomark _))
      (pss_one (ps_ret (pe_joined (.cons pe_str (.cons (pe_fmt (pe_ix ix_list (pv 2) pe_int (fun _ _ => rfl))) (.cons pe_str (.cons (pe_fmt (pe_ix ix_list (pv 2) pe_int (fun _ _ => rfl))) (.cons pe_str (.cons (pe_fmt (pe_ix ix_list (pv 2) pe_int (fun _ _ => rfl))) (.cons pe_str (.cons (pe_fmt (pe_ix ix_list (pv 2) pe_int (fun _ _ => rfl))) .nil)))))))))))
      pss_nil)
      (pss_one (ps_ret (pe_joined (.cons (pe_fmt (pv 1)) (.cons pe_str (.cons (pe_fmt (pe_ix ix_list (pv 2) pe_int (fun _ _ => rfl))) .nil))))))))))), ?_⟩
  obtain ⟨o, ps, ls, rfl, hp, hp4, hf⟩ := hs.parts
  obtain ⟨a, us, rfl, hS, hA⟩ := L10.Dd.tup_inv hd
  rcases hA with _ | ⟨g1, hA⟩; cases g1
  rename_i us
  have lu := hA.len
  refine ⟨.ref a, rfl, a, _, 0, .str o, rfl, rfl, hS, at0, ?_⟩
  refine ⟨fun σ' H' => ∃ L, σ' = [some (.ref a), some (.str o), some (.ref L), none] ∧ H' L = some (.lst (SA ls)) ∧ Same H H', ?_, ?_⟩
  · refine ⟨.ref a, rfl, 1, rfl, a, _, rfl, hS, no_1, fun c nc => ?_⟩
    rw [cut_1]
    have sc := same_upd (o := .tup us) nc
    have hc1 : upd H c (.tup us) c = some (.tup us) := upd_same
    revert sc hc1
    generalize upd H c (.tup us) = H1
    intro sc hc1
    refine ⟨c, rfl, ⟨us, .inl (.inl hc1)⟩, fun D nD => ?_⟩
    have hA1 := hA.keep (KeepO.of sc)
    refine walk_bodyT (xs := us) (fun i H' => H' D = some (.lst (SA (ls.take i))) ∧ ∀ b o, b ≠ D → H1 b = some o → H' b = some o) ?_ ?_ ?_ ?_
    · exact ⟨upd_same, fun b o nb e => by rw [upd_ne nb]; exact e⟩
    · rintro i H' _ ⟨_, kp⟩
      exact .inl (.inl (kp _ _ (ne_of_none hc1 nD) hc1))
    · rintro i y H' hy ⟨hD, kp⟩
      have s1' : Same H1 H' := fun b o e => kp b o (ne_of_none e nD) e
      obtain ⟨di, hdi, hyd⟩ := dd_at (hA1.keep (KeepO.of s1')) hy
      obtain ⟨li, hli, hpc⟩ := hp.at hdi
      have hi : i < us.length := (List.getElem?_eq_some_iff.mp hy).1
      have hle : (SA (ls.take i)).length < sizeLine := by
        rw [List.length_map, List.length_take, sizeLine_eq]
        omega
      refine ⟨rfl, yes_then ⟨y, rfl, y, .ty "str", _, _, _, rfl, .ty "str", hyd.ty, kit_s K di, _, rfl, ?_⟩⟩
      cases hpc with
      | str z =>
        cases hyd
        refine iteT ⟨.str z, rfl, _, hD, hle, ?_, fun b o nb e => ?_⟩
        · rw [upd_same, take_at hli]
          unfold SA
          rw [List.map_append, List.map_singleton, S_wd]
        · rw [upd_ne nb]
          exact kp b o nb e
      | ex n2 _ _ htx =>
        obtain ⟨es, rfl⟩ := tx_tup htx
        refine iteF ⟨y, rfl, y, n2, _, li, rfl, hyd, htx, hsz _ rfl _ (List.mem_cons_of_mem _ (List.mem_of_getElem? hdi)), fun H2 s2 => ⟨_, s2 _ _ hD, hle, ?_, fun b o nb e => ?_⟩⟩
        · rw [upd_same, take_at hli]
          unfold SA
          rw [List.map_append, List.map_singleton]
        · rw [upd_ne nb]
          exact s2 _ _ (kp b o nb e)
    · rintro H' ⟨hD, kp⟩
      rw [lu, ← hp.1, List.take_length] at hD
      exact ⟨D, rfl, hD, fun b o e => kp b o (ne_of_none (sc _ _ e) nD) (sc _ _ e)⟩
  rintro σ' H' ⟨L, rfl, hL, s'⟩
  have hfl := hf.le
  have tst : ∀ {w x : Str} {A B : Prop}, w ≠ x → B → (if decide (V.str w = V.str x) = true then A else B) := fun hne hB => by
    rw [decide_eq_false (fun e => hne (by injection e))]
    exact iteF hB
  have tyes : ∀ {w : Str} {A B : Prop}, A → (if decide (V.str w = V.str w) = true then A else B) := fun hA => by
    rw [decide_eq_true rfl]
    exact iteT hA
  have E0' : Str.empty = S [] := by decide +kernel
  have cLet : PySem.Str.ofString "let " = S tLet := by decide +kernel
  have cEq : PySem.Str.ofString " = " = S tEq := by decide +kernel
  have cPut : PySem.Str.ofString "put " = S tPut := by decide +kernel
  have cEach : PySem.Str.ofString "each " = S tEach := by decide +kernel
  have cIf : PySem.Str.ofString " if " = S tIf := by decide +kernel
  have cP2 : PySem.Str.ofString " put " = S tP2 := by decide +kernel
  have cBr : PySem.Str.ofString "]." = S tBr := by decide +kernel
  have cB : PySem.Str.ofString "[" = S [91] := by decide +kernel
  have cS : PySem.Str.ofString " " = S [32] := by decide +kernel
  cases hf with
  | let_ l0 l1 =>
    have b0 := hfl l0 (by simp)
    have b1 := hfl l1 (by simp)
    refine ⟨.str "let", rfl, rfl, _, rfl, tyes ?_⟩
    refine ⟨"let ", rfl, ?_, .ref L, rfl, L, _, 0, .str (S l0), rfl, rfl, .inl (.inl hL), at0, .inl ⟨S l0, rfl, ?_, S l0, rfl, ?_, " = ", rfl, ?_, .ref L, rfl, L, _, 1, .str (S l1), rfl, rfl, .inl (.inl hL), atI_nat (j := 1) rfl, .inl ⟨S l1, rfl, ?_, S l1, rfl, ?_, ?_⟩⟩⟩
    iterate 6 (· (try rw [cLet]); (try rw [cEq]); (try rw [E0']); simp only [S_cat, S_len, List.length_append, List.length_cons, List.length_nil, sizeLine_eq]; omega)
    rw [cLet, cEq, E0', S_cat, S_cat, S_cat, S_cat, List.nil_append, List.append_assoc, List.append_assoc]
    exact q H' s'
  | one _ l0 ho =>
    have b0 := hfl l0 (by simp)
    have hne : o ≠ "let" ∧ o ≠ "put" ∧ o ≠ "each" ∧ (wd o).length ≤ 4 := by
      rcases ho with rfl | rfl <;> exact ⟨by decide, by decide, by decide, by decide⟩
    refine ⟨.str o, rfl, rfl, _, rfl, tst hne.1 ⟨.str o, rfl, rfl, _, rfl, tst hne.2.1 ⟨.str o, rfl, rfl, _, rfl, tst hne.2.2.1 ?_⟩⟩⟩
    refine ⟨.str o, rfl, .inl ⟨o, rfl, ?_, o, rfl, ?_, " ", rfl, ?_, .ref L, rfl, L, _, 0, .str (S l0), rfl, rfl, .inl (.inl hL), at0, .inl ⟨S l0, rfl, ?_, S l0, rfl, ?_, ?_⟩⟩⟩
    iterate 5 (· (try rw [cS]); (try rw [E0']); (try rw [← S_wd o]); simp only [S_cat, S_len, List.length_append, List.length_cons, List.length_nil, sizeLine_eq]; omega)
    have e : Str.empty ++ o ++ PySem.Str.ofString " " ++ S l0 = S (wd o ++ ([32] ++ l0)) := by
      rw [cS, E0']
      conv => lhs; rw [← S_wd o]
      rw [S_cat, S_cat, S_cat, List.nil_append, List.append_assoc]
    rw [e]
    exact q H' s'
  | put l0 l1 l2 l3 =>
    have b0 := hfl l0 (by simp)
    have b1 := hfl l1 (by simp)
    have b2 := hfl l2 (by simp)
    have b3 := hfl l3 (by simp)
    refine ⟨.str "put", rfl, rfl, _, rfl, tst (by decide) ⟨.str "put", rfl, rfl, _, rfl, tyes ?_⟩⟩
    refine ⟨"put ", rfl, ?_, .ref L, rfl, L, _, 0, .str (S l0), rfl, rfl, .inl (.inl hL), at0, .inl ⟨S l0, rfl, ?_, S l0, rfl, ?_, "[", rfl, ?_, .ref L, rfl, L, _, 1, .str (S l1), rfl, rfl, .inl (.inl hL), atI_nat (j := 1) rfl, .inl ⟨S l1, rfl, ?_, S l1, rfl, ?_,
      "].", rfl, ?_, .ref L, rfl, L, _, 2, .str (S l2), rfl, rfl, .inl (.inl hL), atI_nat (j := 2) rfl, .inl ⟨S l2, rfl, ?_, S l2, rfl, ?_, " = ", rfl, ?_, .ref L, rfl, L, _, 3, .str (S l3), rfl, rfl, .inl (.inl hL), atI_nat (j := 3) rfl, .inl ⟨S l3, rfl, ?_, S l3, rfl, ?_, ?_⟩⟩⟩⟩⟩
    iterate 12 (· (try rw [cPut]); (try rw [cB]); (try rw [cBr]); (try rw [cEq]); (try rw [E0']); simp only [S_cat, S_len, List.length_append, List.length_cons, List.length_nil, sizeLine_eq]; omega)
    rw [cPut, cB, cBr, cEq, E0', S_cat, S_cat, S_cat, S_cat, S_cat, S_cat, S_cat, S_cat, List.nil_append, List.append_assoc, List.append_assoc, List.append_assoc, List.append_assoc, List.append_assoc, List.append_assoc]
    exact q H' s'
  | each l0 l1 l2 l3 =>
    have b0 := hfl l0 (by simp)
    have b1 := hfl l1 (by simp)
    have b2 := hfl l2 (by simp)
    have b3 := hfl l3 (by simp)
    refine ⟨.str "each", rfl, rfl, _, rfl, tst (by decide) ⟨.str "each", rfl, rfl, _, rfl, tst (by decide) ⟨.str "each", rfl, rfl, _, rfl, tyes ?_⟩⟩⟩
    refine ⟨"each ", rfl, ?_, .ref L, rfl, L, _, 0, .str (S l0), rfl, rfl, .inl (.inl hL), at0, .inl ⟨S l0, rfl, ?_, S l0, rfl, ?_, " if ", rfl, ?_, .ref L, rfl, L, _, 1, .str (S l1), rfl, rfl, .inl (.inl hL), atI_nat (j := 1) rfl, .inl ⟨S l1, rfl, ?_, S l1, rfl, ?_,
      " put ", rfl, ?_, .ref L, rfl, L, _, 2, .str (S l2), rfl, rfl, .inl (.inl hL), atI_nat (j := 2) rfl, .inl ⟨S l2, rfl, ?_, S l2, rfl, ?_, " = ", rfl, ?_, .ref L, rfl, L, _, 3, .str (S l3), rfl, rfl, .inl (.inl hL), atI_nat (j := 3) rfl, .inl ⟨S l3, rfl, ?_, S l3, rfl, ?_, ?_⟩⟩⟩⟩⟩
    iterate 12 (· (try rw [cEach]); (try rw [cIf]); (try rw [cP2]); (try rw [cEq]); (try rw [E0']); simp only [S_cat, S_len, List.length_append, List.length_cons, List.length_nil, sizeLine_eq]; omega)
    rw [cEach, cIf, cP2, cEq, E0', S_cat, S_cat, S_cat, S_cat, S_cat, S_cat, S_cat, S_cat, List.nil_append, List.append_assoc, List.append_assoc, List.append_assoc, List.append_assoc, List.append_assoc, List.append_assoc]
    exact q H' s'
abbrev s_show_transaction : Stmt := topS 59
abbrev N_st9 : List Str := ["transaction", "statement"]
theorem sc_show_transaction : FnScope N_st9 ["transaction"] (defScope s_show_transaction) := ⟨rfl, rfl, rfl, by decide +kernel, rfl, by decide +kernel, by decide +kernel⟩
/-- statements with their texts -/
structure Tt (n : Nat) (ds : List PyData) (ls : List (List Nat)) : Prop where
  len : ls.length = ds.length
  sx : ∀ p, p ∈ ds.zip ls → Sx n p.1 p.2
  few : ds.length ≤ 30
  le : ∀ l, l ∈ ls → l.length ≤ 250000
  sz : ∀ d, d ∈ ds → PartsLe d 100000
theorem Tt.at {n : Nat} {ds : List PyData} {ls : List (List Nat)} (h : Tt n ds ls) {i : Nat} {x : PyData} (hx : ds[i]? = some x) : ∃ l, ls[i]? = some l ∧ Sx n x l ∧ l.length ≤ 250000 := by
  have hi : i < ds.length := (List.getElem?_eq_some_iff.mp hx).1
  have hl : i < ls.length := by rw [h.len]; exact hi
  refine ⟨ls[i], List.getElem?_eq_getElem hl, h.sx (x, ls[i]) ?_, h.le _ (List.getElem_mem hl)⟩
  refine List.mem_of_getElem? (i := i) ?_
  rw [List.getElem?_zip_eq_some]
  exact ⟨hx, List.getElem?_eq_getElem hl⟩
abbrev rows (ls : List (List Nat)) : List Nat := TL.joinL [10] ls
theorem rows_len : ∀ ls : List (List Nat), (rows ls).length ≤ (ls.map List.length).sum + ls.length
  | [] => Nat.zero_le _
  | [l] => by
    show l.length ≤ _
    rw [List.map_cons, List.map_nil, List.sum_cons, List.sum_nil]
    omega
  | l :: m :: r => by
    have := rows_len (m :: r)
    show (l ++ ([10] ++ rows (m :: r))).length ≤ _
    rw [List.length_append, List.length_append, List.map_cons, List.sum_cons, List.length_cons (a := l)]
    show l.length + (1 + _) ≤ _
    omega
theorem sum_le {b : Nat} : ∀ {ls : List (List Nat)}, (∀ l, l ∈ ls → l.length ≤ b) → (ls.map List.length).sum ≤ ls.length * b
  | [], _ => Nat.zero_le _
  | l :: ls, h => by
    have ih := sum_le fun x hx => h x (List.mem_cons_of_mem _ hx)
    have := h l List.mem_cons_self
    rw [List.map_cons, List.sum_cons, List.length_cons, Nat.add_mul]
    omega
theorem Tt.sum {n : Nat} {ds : List PyData} {ls : List (List Nat)} (h : Tt n ds ls) : (ls.map List.length).sum ≤ 7500000 ∧ ls.length ≤ 30 := by
  have h1 := sum_le h.le
  have h2 := h.len
  have h3 := h.few
  have h4 : ls.length * 250000 ≤ 30 * 250000 := Nat.mul_le_mul_right _ (by omega)
  omega
def sp_shtr (K : PySem.W.Frag) : Sp := fun vs H Q _ => ∃ (a : Addr) (us : List V) (n : Nat) (ds : List PyData) (ls : List (List Nat)), vs = [.ref a] ∧ SqT K H a us ∧ DdAll K F0 H us ds ∧ Tt n ds ls ∧ ∀ H', Same H H' → Q (.str (S (rows ls))) H'
theorem ok_show_transaction {f fe : Addr} {fd de : FuncData} {k : Nat} (F : Fun K "show_transaction" "show_transaction" s_show_transaction f fd) (G : FnOk P w K mg base CX0 k fe de ["statement"] (sp_shst K)) (g : mg "show_statement" = some (.ref fe)) (Kf : PySem.W.keepIn K (.ref fe) = true) (b : Binds K de ["statement"] []) :
    FnOk P w K mg base CX0 (k + 1) f fd ["transaction"] (sp_shtr K) := by
  have nd := sc_show_transaction.nd
  refine F.ok sc_show_transaction (fun vs H Q E h => ?_) (fun cdv A outer s H vs Q E hr h => ?_)
  · obtain ⟨a, us, n, ds, ls, rfl, _⟩ := h
    rfl
  obtain ⟨a, us, n, ds, ls, rfl, hS, hA, hT, q⟩ := h
  refine ⟨_, (pss_one (ps_ret (pe_join pe_str (pe_lc (own := [("statement", 1)]) (tt := tYes) (te := tCall (sp_shst K) [] E0 (tCons (tVar 1) tNil)) rfl nd (pi_tup (pv 0)) (blkOk_by (N := N_st9) (sc := defScope s_show_transaction) (by decide +kernel)) (fun _ _ _ _ _ => (pg_name (i := 1) nd rfl (Or.inl rfl))) (fun _ _ _ _ _ => pts_nil) (fun _ _ _ _ _ => (pe_call G hr (by rfl) g Kf b .nil pass0 (pa_cons (pv 1) pa_nil))))))), ?_⟩
  have lu := hA.len
  have hsum := hT.sum
  refine ⟨⟨_, rfl⟩, .ref a, rfl, a, rfl, ⟨us, hS⟩, fun D nD => ?_⟩
  refine walk_bodyT (xs := us) (fun i H' => H' D = some (.lst (SA (ls.take i))) ∧ ∀ b o, b ≠ D → H b = some o → H' b = some o) ?_ ?_ ?_ ?_
  · exact ⟨upd_same, fun b o nb e => by rw [upd_ne nb]; exact e⟩
  · rintro i H' _ ⟨_, kp⟩
    exact (KeepT.of (fun b o e => kp b o (ne_of_none e nD) e)).seqt hS
  · rintro i y H' hy ⟨hD, kp⟩
    have s1' : Same H H' := fun b o e => kp b o (ne_of_none e nD) e
    obtain ⟨di, hdi, hyd⟩ := dd_at (hA.keep (KeepO.of s1')) hy
    obtain ⟨li, hli, hsx, hll⟩ := hT.at hdi
    have hi : i < us.length := (List.getElem?_eq_some_iff.mp hy).1
    have hf60 := hT.few
    have hle : (SA (ls.take i)).length < sizeLine := by
      rw [List.length_map, List.length_take, sizeLine_eq]
      omega
    refine ⟨rfl, yes_then ⟨y, rfl, y, n, di, li, rfl, hyd, hsx, by omega, hT.sz _ (List.mem_of_getElem? hdi), fun H2 s2 => ⟨_, s2 _ _ hD, hle, ?_, fun b o nb e => ?_⟩⟩⟩
    · rw [upd_same, take_at hli]
      unfold SA
      rw [List.map_append, List.map_singleton]
    · rw [upd_ne nb]
      exact s2 _ _ (kp b o nb e)
  · rintro H' ⟨hD, kp⟩
    rw [lu, ← hT.len, List.take_length] at hD
    have e1 : SA ls = (ls.map S).map V.str := by
      unfold SA
      rw [List.map_map]
      rfl
    refine ⟨Str.ofString "\n", D, ls.map S, rfl, rfl, .inl (.inl (.inl (by rw [← e1]; exact hD))), ?_, ?_⟩
    · have : ((ls.map S).map (·.length)).sum = (ls.map List.length).sum := by
        rw [List.map_map]
        congr 1
      rw [this, List.length_map]
      show _ + ls.length * 1 ≤ _
      omega
    · rw [show PySem.Str.ofString "\n" = S [10] by decide +kernel, SX.join_S]
      exact q H' fun b o e => kp b o (ne_of_none e nD) e
end
end L10

/-! transactions are read -/
namespace L10
open PySem PySem.Spec PyProof.Rows L2 GR AD RZ WX ZE TX RVT
open SX (S S_cat S_len S_inj)
/-! no line ends within a statement -/
theorem digit_no {c : Nat} (h : isD c = true) : c ≠ 10 := by
  rw [Bool.and_eq_true, decide_eq_true_eq, decide_eq_true_eq] at h
  omega
theorem num_no10 (i : Int) : 10 ∉ num i := by
  obtain ⟨ng, ds, h, _, hds⟩ := num_form i
  rw [h]
  intro hm
  rcases List.mem_append.mp hm with hm | hm
  · cases ng <;> simp at hm
  · exact digit_no (List.all_eq_true.mp hds 10 hm) rfl
theorem nm_no10 {z : Str} (h : Nm z) : 10 ∉ wd z := fun hm => by
  have := h.2.2.1 10 hm
  unfold Low at this
  omega
theorem app_no {a b : List Nat} (h : 10 ∉ a) (t : 10 ∉ b) : 10 ∉ a ++ b := fun hm => by
  rcases List.mem_append.mp hm with hm | hm
  · exact h hm
  · exact t hm
theorem cons_no {c : Nat} {b : List Nat} (h : c ≠ 10) (t : 10 ∉ b) : 10 ∉ c :: b := fun hm => by
  rcases List.mem_cons.mp hm with hm | hm
  · exact h hm.symm
  · exact t hm
theorem commas_no : ∀ {ls : List (List Nat)}, (∀ l, l ∈ ls → 10 ∉ l) → 10 ∉ commas ls
  | [], _ => List.not_mem_nil
  | [l], h => h l (List.mem_singleton.mpr rfl)
  | l :: m :: r, h => by
    show 10 ∉ l ++ ([44, 32] ++ commas (m :: r))
    exact app_no (h l List.mem_cons_self) (app_no (by decide) (commas_no fun x hx => h x (List.mem_cons_of_mem _ hx)))
theorem zip_no {xs : List PyData} {ls : List (List Nat)} (hl : ls.length = xs.length) (h : ∀ p, p ∈ xs.zip ls → 10 ∉ p.2) : ∀ l, l ∈ ls → 10 ∉ l := fun l hm => by
  obtain ⟨i, hi, rfl⟩ := List.getElem_of_mem hm
  have hx : i < xs.length := by omega
  refine h (xs[i], ls[i]) (List.mem_of_getElem? (i := i) ?_)
  rw [List.getElem?_zip_eq_some]
  exact ⟨List.getElem?_eq_getElem hx, List.getElem?_eq_getElem hi⟩
theorem Tx.no10 {n : Nat} {d : PyData} {l : List Nat} (h : Tx n d l) : 10 ∉ l := by
  induction h with
  | int n i h1 h2 => exact num_no10 i
  | key n => decide
  | var n z hz => exact nm_no10 hz
  | cell n t v x l h1 h2 _ ih => exact app_no (nm_no10 h1) (cons_no (by decide) (app_no ih (cons_no (by decide) (cons_no (by decide) (nm_no10 h2)))))
  | op n o x y l m ho _ _ ih1 ih2 =>
    have hw : 10 ∉ wd o := by
      simp only [ops5, List.mem_cons, List.not_mem_nil, or_false] at ho
      rcases ho with rfl | rfl | rfl | rfl | rfl <;> decide
    exact cons_no (by decide) (app_no ih1 (cons_no (by decide) (app_no hw (cons_no (by decide) (app_no ih2 (by decide))))))
  | call n o xs ls ho hl _ ih =>
    have hw : 10 ∉ wd o := by
      simp only [callk, List.mem_cons, List.not_mem_nil, or_false, Prod.mk.injEq] at ho
      rcases ho with ⟨rfl, e⟩ | ⟨rfl, e⟩ <;> decide
    exact app_no hw (cons_no (by decide) (app_no (commas_no (zip_no hl ih)) (by decide)))
  | agg n o t xs ls h0 ho ht hl _ ih =>
    have hw : 10 ∉ wd o := by
      simp only [aggn, List.mem_cons, List.not_mem_nil, or_false, Prod.mk.injEq] at ho
      rcases ho with ⟨rfl, e⟩ | ⟨rfl, e⟩ | ⟨rfl, e⟩ | ⟨rfl, e⟩ <;> decide
    exact app_no hw (cons_no (by decide) (app_no (nm_no10 ht) (cons_no (by decide) (cons_no (by decide) (app_no (commas_no (zip_no hl ih)) (by decide))))))
theorem Sx.no10 {n : Nat} {d : PyData} {l : List Nat} (h : Sx n d l) : 10 ∉ l := by
  cases h with
  | let_ z x l hz hx => exact app_no (by decide) (app_no (nm_no10 hz) (app_no (by decide) hx.no10))
  | one o x l ho hx =>
    have hw : 10 ∉ wd o := by rcases ho with rfl | rfl <;> decide
    exact app_no hw (app_no (by decide) hx.no10)
  | put t c k x l m ht hc hk hx => exact app_no (by decide) (app_no (nm_no10 ht) (app_no (by decide) (app_no hk.no10 (app_no (by decide) (app_no (nm_no10 hc) (app_no (by decide) hx.no10))))))
  | each t c k x l m ht hc hk hx => exact app_no (by decide) (app_no (nm_no10 ht) (app_no (by decide) (app_no hk.no10 (app_no (by decide) (app_no (nm_no10 hc) (app_no (by decide) hx.no10))))))
theorem Sx.ne {n : Nat} {d : PyData} {l : List Nat} (h : Sx n d l) : l ≠ [] := by
  cases h with
  | let_ z x l hz hx => exact List.cons_ne_nil _ _
  | one o x l ho hx => rcases ho with rfl | rfl <;> exact List.cons_ne_nil _ _
  | put t c k x l m ht hc hk hx => exact List.cons_ne_nil _ _
  | each t c k x l m ht hc hk hx => exact List.cons_ne_nil _ _
section
variable {P : Program} {w : World} {K : PySem.W.Frag} {mg : Str → Option Value} {base : Heap}
abbrev s_lines_of : Stmt := topS 62
theorem sc_lines_of : FnScope ["text"] ["text"] (defScope s_lines_of) := ⟨rfl, rfl, rfl, by decide +kernel, rfl, by decide +kernel, by decide +kernel⟩
def sp_lines (K : PySem.W.Frag) : Sp := fun vs H Q _ => ∃ ls : List (List Nat), vs = [.str (S (rows ls))] ∧ (rows ls).length ≤ 8000000 ∧ (∀ l, l ∈ ls → 10 ∉ l ∧ l ≠ []) ∧ ∀ p, H p = none → Q (.ref p) (upd H p (.lst (SA ls)))
theorem ok_lines_of {f : Addr} {fd : FuncData} {k : Nat} (F : Fun K "lines_of" "lines_of" s_lines_of f fd) : FnOk P w K mg base CX0 (k + 1) f fd ["text"] (sp_lines K) := by
  refine F.ok sc_lines_of (fun vs H Q E h => ?_) (fun cdv A outer s H vs Q E hr h => ?_)
  · obtain ⟨ls, rfl, _⟩ := h
    rfl
  obtain ⟨ls, rfl, hl, hno, q⟩ := h
  refine ⟨_, (pss_cons (ps_if (pt_cmpR op_eq (pv 0) pe_str (nomark _))
      (pss_one (ps_ret (pe_lst pa_nil)))
      pss_nil)
      (pss_one (ps_ret (pe_split (pv 0) pe_str)))), ?_⟩
  refine ⟨.str (S (rows ls)), rfl, rfl, _, rfl, ?_⟩
  cases ls with
  | nil =>
    rw [decide_eq_true (show V.str (S (rows [])) = V.str "" by decide +kernel)]
    exact iteT ⟨small_le (show 0 ≤ 1000 by decide), fun p np => q p np⟩
  | cons l0 lr =>
    have hne : rows (l0 :: lr) ≠ [] := by
      have h0 := (hno l0 List.mem_cons_self).2
      cases lr with
      | nil => exact h0
      | cons m r =>
        show l0 ++ ([10] ++ rows (m :: r)) ≠ []
        intro e
        exact h0 (List.append_eq_nil_iff.mp e).1
    rw [decide_eq_false (fun e => by
      injection e with e
      have := congrArg PySem.Str.length e
      rw [S_len] at this
      exact hne (List.length_eq_zero_iff.mp this))]
    refine iteF ⟨_, rfl, ⟨_, rfl⟩, S (rows (l0 :: lr)), Str.ofString "\n", rfl, rfl, by rfl, by rw [S_len, sizeLine_eq]; omega, fun p np => ?_⟩
    rw [show PySem.Str.ofString "\n" = S [10] by decide +kernel, SX.split_S (by decide) (by decide), SX.spl_join (List.cons_ne_nil _ _) (fun p hp => (hno p hp).1)]
    have := q p np
    unfold SA at this
    rw [List.map_map]
    exact this
abbrev s_read_statement : Stmt := topS 63
theorem sc_read_statement : FnScope ["line", "reader", "statement"] ["line"] (defScope s_read_statement) := ⟨rfl, rfl, rfl, by decide +kernel, rfl, by decide +kernel, by decide +kernel⟩
def sp_rst (K : PySem.W.Frag) (n : Nat) : Sp := fun vs H Q _ => ∃ (l : List Nat) (d : PyData), vs = [.str (S l)] ∧ l.length ≤ 8000000 ∧ Sx n d l ∧ Sp' d ∧ ∀ H' v, Same H H' → Dd K F0 H' v d → Q v H'
theorem ok_read_statement {f C fI : Addr} {fd dI : FuncData} {k n : Nat} (F : Fun K "read_statement" "read_statement" s_read_statement f fd) (M : Mk K C fI) (gC : mg "Reader" = some (.ref C)) (GI : FnOk P w K mg base CX0 k fI dI ["self", "text"] (sp_rinit C)) (bI : Binds K dI ["self", "text"] [])
    (R : RdM P w K mg base C (k + 1)) (XS : DF P w K mg base "take_statement" ["reader"] (sp_tst K C n) (k + 1)) (XI : DF P w K mg base "is_statement" ["thing"] (sp_ist K) (k + 1)) : FnOk P w K mg base CX0 (k + 1 + 1) f fd ["line"] (sp_rst K n) := by
  have nd := sc_read_statement.nd
  refine F.ok sc_read_statement (fun vs H Q E h => ?_) (fun cdv A outer s H vs Q E hr h => ?_)
  · obtain ⟨l, d, rfl, _⟩ := h
    rfl
  obtain ⟨l, d, rfl, hl, hs, hp, q⟩ := h
  obtain ⟨fS, dS, GS, gS, KS, bS⟩ := XS
  obtain ⟨fi, di, Gi, gi, Ki, bi⟩ := XI
  obtain ⟨fe, de, Ge, me, be⟩ := R.tend
  have T := R.T
  refine ⟨_, (pss_cons (ps_set (i := 1) nd rfl (.inl rfl) (pe_make M GI hr (by rfl) gC bI .nil pass0 (pa_cons (pv 0) pa_nil)))
      (pss_cons (ps_set (i := 2) nd rfl (.inl rfl) (pe_call GS hr (by rfl) gS KS bS .nil pass0 (pa_cons (pv 1) pa_nil)))
      (pss_cons (ps_expr (pe_meth0 (pv 1) T.cl me Ge hr be .nil pass0))
      (pss_cons (ps_if (pt_not (pt_val (pe_call Gi hr (by rfl) gi Ki bi .nil pass0 (pa_cons (pv 2) pa_nil))))
      (pss_one ps_never)
      pss_nil)
      (pss_one (ps_ret (pv 2))))))), ?_⟩
  refine ⟨.str (S l), rfl, fun x dx nx ndx hne => ⟨x, dx, l, rfl, upd_same, fun H1 r1 k1 => ⟨rfl, ?_⟩⟩⟩
  have s1 : Same H H1 := fun b o e => k1 b o (ne_of_none e nx) (by
    rw [upd_ne (ne_of_none e nx), upd_ne (ne_of_none e ndx)]
    exact e)
  refine ⟨.ref x, rfl, x, l, d, rfl, r1, hl, hs, fun H2 v k2 r2 hv => ?_⟩
  have s2 : Same H H2 := fun b o e => k2 b o (ne_of_none e nx) (s1 b o e)
  obtain ⟨dx2, hx2⟩ := id r2
  refine ⟨.ref x, rfl, x, dx2, _, rfl, hx2, nopl (by decide +kernel), x, l, rfl, r2, hl, ?_⟩
  refine ⟨v, rfl, v, d, F0, rfl, hv, hp.ys, fun H3 s3 => ⟨_, rfl, ?_⟩⟩
  rw [hp.st]
  exact iteF ⟨v, rfl, q H3 v (s2.trans s3) (hv.keep (KeepO.of s3))⟩
abbrev s_read_transaction : Stmt := topS 61
abbrev N_rt : List Str := ["thing", "known", "found", "number", "line", "statement"]
theorem sc_read_transaction : FnScope N_rt ["thing"] (defScope s_read_transaction) := ⟨rfl, rfl, rfl, by decide +kernel, rfl, by decide +kernel, by decide +kernel⟩
/-- what is read comes to be again -/
def sp_rtr (K : PySem.W.Frag) (n : Nat) : Sp := fun vs H Q _ => ∃ (ds : List PyData) (ls : List (List Nat)) (Z : List Str), vs = [.str (S (rows ls))] ∧ Tt n ds ls ∧ (∀ d, d ∈ ds → Zp Z d) ∧ Z.length ≤ 60 ∧ goT [] ds = true ∧ ∀ H' v, Same H H' → Dd K F0 H' v (.tuple ds) → Q v H'
def WInv (K : PySem.W.Frag) (z : Str) (kA fA : Addr) (H0 : Hp) (ds : List PyData) (i : Nat) (σ : L2.St) (H : Hp) : Prop :=
  ∃ (y1 y2 y3 : Option V) (kn : List Str) (us : List V), σ = [some (.str z), some (.ref kA), some (.ref fA), y1, y2, y3] ∧ KnAt H kA kn ∧ kn.length ≤ i ∧ H fA = some (.lst us) ∧ DdAll K F0 H us (ds.take i) ∧ goT kn (ds.drop i) = true ∧ (∀ b o, b ≠ kA → b ≠ fA → H0 b = some o → H b = some o)
theorem ok_read_transaction {f fl fm fn fr : Addr} {fd dl dm dn dr : FuncData} {k n : Nat} (F : Fun K "read_transaction" "read_transaction" s_read_transaction f fd)
    (Gl : FnOk P w K mg base CX0 k fl dl ["text"] (sp_lines K)) (gl : mg "lines_of" = some (.ref fl)) (Kl : PySem.W.keepIn K (.ref fl) = true) (bl : Binds K dl ["text"] [])
    (Gr : FnOk P w K mg base CX0 k fr dr ["line"] (sp_rst K n)) (gr : mg "read_statement" = some (.ref fr)) (Kr : PySem.W.keepIn K (.ref fr) = true) (br : Binds K dr ["line"] [])
    (Gm : FnOk P w K mg base CX0 k fm dm ["statement", "known"] (sp_mf K)) (gm : mg "may_follow" = some (.ref fm)) (Km : PySem.W.keepIn K (.ref fm) = true) (bm : Binds K dm ["statement", "known"] [])
    (Gn : FnOk P w K mg base CX0 k fn dn ["statement"] (sp_nl K)) (gn : mg "names_let" = some (.ref fn)) (Kn : PySem.W.keepIn K (.ref fn) = true) (bn : Binds K dn ["statement"] [])
    (misi : mg "isinstance" = none) (mstr : mg "str" = none) (menum : mg "enumerate" = none) (mtuple : mg "tuple" = none) : FnOk P w K mg base CX0 (k + 1) f fd ["thing"] (sp_rtr K n) := by
  have nd := sc_read_transaction.nd
  refine F.ok sc_read_transaction (fun vs H Q E h => ?_) (fun cdv A outer s H vs Q E hr h => ?_)
  · obtain ⟨ds, ls, Z, rfl, _⟩ := h
    rfl
  obtain ⟨ds, ls, Z, rfl, hT, hZ, hZ60, hgo, q⟩ := h
  refine ⟨_, (pss_cons (ps_if (pt_not (pt_val (pe_callB call_isi (by rfl) misi boot_isinstance (pa_cons (pv 0) (pa_cons (pe_bltn (v := .ty "str") (by rfl) mstr boot_str rfl) pa_nil)))))
      (pss_one ps_never)
      pss_nil)
      (pss_cons (ps_set (i := 1) nd rfl (.inl rfl) pe_dnewK)
      (pss_cons (ps_set (i := 2) nd rfl (.inl rfl) (pe_lst pa_nil))
      (pss_cons (ps_for PassesOwn.never rfl (pi_enum (by rfl) menum (pa_cons (pe_call Gl hr (by rfl) gl Kl bl .nil pass0 (pa_cons (pv 0) pa_nil)) pa_nil)) (pg_tup rfl (pgs_cons (pg_name (i := 3) nd rfl (Or.inl rfl)) (pgs_cons (pg_name (i := 4) nd rfl (Or.inl rfl)) pgs_nil)))
      (pss_cons (ps_try_thru0 (pss_one (ps_set (i := 5) nd rfl (.inl rfl) (pe_call Gr hr (by rfl) gr Kr br .nil pass0 (pa_cons (pv 4) pa_nil)))))
        (pss_cons (ps_if (pt_not (pt_val (pe_call Gm hr (by rfl) gm Km bm .nil pass0 (pa_cons (pv 5) (pa_cons (pv 1) pa_nil)))))
        (pss_one ps_never)
        pss_nil)
        (pss_cons (ps_expr (pe_bm PySem.F.plainAttrs_dict PySem.F.slot_dict_update PySem.F.type_dict_update mt_dupd (pv 1) (pa_cons (pe_call Gn hr (by rfl) gn Kn bn .nil pass0 (pa_cons (pv 5) pa_nil)) pa_nil)))
        (pss_one (ps_expr (pe_bm PySem.F.plainAttrs_list PySem.F.slot_list_append PySem.F.type_list_append mt_append (pv 2) (pa_cons (pv 5) pa_nil))))))))
      (pss_one (ps_ret (pe_callTy call_tuple_of (by rfl) mtuple boot_tuple (pa_cons (pv 2) pa_nil)))))))), ?_⟩
  have hsum := hT.sum
  have hrl := rows_len ls
  have hlines : ∀ l, l ∈ ls → 10 ∉ l ∧ l ≠ [] := fun l hm => by
    obtain ⟨i, hi, rfl⟩ := List.getElem_of_mem hm
    have hx : i < ds.length := by rw [← hT.len]; exact hi
    obtain ⟨l', h1, h2, _⟩ := hT.at (List.getElem?_eq_getElem hx)
    rw [List.getElem?_eq_getElem hi] at h1
    obtain rfl := Option.some.inj h1
    exact ⟨h2.no10, h2.ne⟩
  refine ⟨.str (S (rows ls)), rfl, .str (S (rows ls)), .ty "str", _, _, true, rfl, .ty "str", (Dd.ty (K := K) (H := H) (ok := F0) (.str (S (rows ls)))), kit_s K _, _, rfl, iteF ?_⟩
  refine fun kA nk => ⟨small_le (show 0 ≤ 1000 by decide), fun fA nf => ?_⟩
  have sk := same_upd (o := .dK []) nk
  have sf := same_upd (o := .lst []) nf
  have hk0 : KnAt (upd (upd H kA (.dK [])) fA (.lst [])) kA [] := ⟨[], sf _ _ upd_same, rfl⟩
  have hf0 : upd (upd H kA (.dK [])) fA (.lst []) fA = some (.lst []) := upd_same
  have hfk : fA ≠ kA := (ne_of_none (show upd H kA (.dK []) kA = some (.dK []) from upd_same) nf).symm
  have s01 := sk.trans sf
  have nf0 : H fA = none := sk.free nf
  revert hk0 hf0 s01
  generalize upd (upd H kA (.dK [])) fA (.lst []) = H1
  intro hk0 hf0 s01
  refine ⟨.str (S (rows ls)), rfl, ls, rfl, by omega, hlines, fun p np => ⟨p, SA ls, rfl, .inl (.inl upd_same), ?_⟩⟩
  have sp := same_upd (o := .lst (SA ls)) np
  have hp2 : upd H1 p (.lst (SA ls)) p = some (.lst (SA ls)) := upd_same
  have hk2 := hk0.keep sp
  have hf2 := sp _ _ hf0
  have s02 := s01.trans sp
  revert hp2 hk2 hf2 s02
  generalize upd H1 p (.lst (SA ls)) = H2
  intro hp2 hk2 hf2 s02
  obtain ⟨kvs0, hkk0, _⟩ := id hk2
  have hpk : p ≠ kA := fun e => by rw [e, hkk0] at hp2; cases hp2
  have hpf : p ≠ fA := fun e => by
    obtain ⟨_, _⟩ := id hk0
    rw [e, hf0] at np
    cases np
  have hll : (SA ls).length = ds.length := by rw [List.length_map, hT.len]
  refine for_it (walk_enum (xs := SA ls)) (WInv K (S (rows ls)) kA fA H2 ds) ⟨none, none, none, [], [], rfl, hk2, Nat.le_refl _, hf2, by rw [List.take_zero]; exact .nil, by rw [List.drop_zero]; exact hgo, fun b o _ _ e => e⟩ ?_ ?_ ?_
  · rintro i σ H' _ ⟨y1, y2, y3, kn, us, rfl, _, _, _, _, _, kk⟩
    exact .inl (.inl (kk _ _ hpk hpf hp2))
  · rintro i x σ H0' H' hi ⟨y1, y2, y3, kn, us, rfl, hk, hkl, hf, hA, hg, kk⟩ ⟨T1, xi, yi, rfl, hT1, rfl, hxi, hyi⟩
    obtain rfl : V.int (i : Int) = xi := Option.some.inj hxi
    have hi2 : i < ds.length := by omega
    have hdi : ds[i]? = some ds[i] := List.getElem?_eq_getElem hi2
    obtain ⟨li, hli, hsx, hll'⟩ := hT.at hdi
    have hyi' : yi = V.str (S li) := by
      have e : (SA ls)[i]? = some (V.str (S li)) := by
        unfold SA
        rw [List.getElem?_map, hli]
        rfl
      exact Option.some.inj ((show (SA ls)[i]? = some yi from hyi).symm.trans e)
    subst hyi'
    have hz := hZ ds[i] (List.getElem_mem hi2)
    rw [List.drop_eq_getElem_cons hi2, goT, Bool.and_eq_true, Bool.and_eq_true] at hg
    obtain ⟨c1, c2, c3⟩ := hg
    have hsp : Sp' ds[i] := ⟨c1, hz.ys⟩
    have sT := same_upd (o := .tup [.int (i : Int), .str (S li)]) hT1
    refine ⟨_, _, rfl, .inl (.inl upd_same), rfl, _, _, rfl, _, _, rfl, rfl, ?_⟩
    have hkT := hk.keep sT
    have hfT := sT _ _ hf
    have hAT := hA.keep (KeepO.of sT)
    have kkT : ∀ b o, b ≠ kA → b ≠ fA → H2 b = some o → upd H0' T1 (.tup [.int (i : Int), .str (S li)]) b = some o := fun b o h1 h2 e => sT _ _ (kk b o h1 h2 e)
    revert hkT hfT hAT kkT
    generalize upd H0' T1 (.tup [.int (i : Int), .str (S li)]) = H3
    intro hkT hfT hAT kkT
    refine ⟨.str (S li), rfl, li, ds[i], rfl, by omega, hsx, hsp, fun H4 v s4 hv => ?_⟩
    refine ⟨v, rfl, .ref kA, rfl, v, ds[i], F0, kA, kn, Z, rfl, hv, hsp, hkT.keep s4, hZ60, txS_in hz.tx c1, fun H5 s5 => ⟨_, rfl, ?_⟩⟩
    rw [c2]
    have s45 := s4.trans s5
    have hk5 := hkT.keep s45
    have hty : tyV K "dict" (.ref kA) H5 := by
      obtain ⟨kvs, g1, _⟩ := hk5
      exact .inr (.inr (.inl ⟨rfl, .inl ⟨kvs, g1⟩⟩))
    refine iteF ⟨.ref kA, rfl, hty, v, rfl, v, ds[i], F0, rfl, hv.keep (KeepO.of s5), c1, fun H6 p6 s6 np6 hp6 => ?_⟩
    obtain ⟨kvs, g1, g2⟩ := hk5
    have g6 := s6 _ _ g1
    have hll2 := letsL_le ds[i]
    have hkv : kvs.length = kn.length := by
      have := congrArg List.length g2
      rwa [List.length_map, List.length_map] at this
    have hnot : ∀ z, z ∈ letsL ds[i] → z ∉ kn := by
      unfold mayF at c2
      rw [Bool.and_eq_true, Bool.not_eq_true'] at c2
      intro z hz2 hzk
      have := List.any_eq_false.mp c2.1 z hz2
      exact this (decide_eq_true hzk)
    have hf30 := hT.few
    refine ⟨kA, p6, kvs, _, rfl, rfl, ne_of_none g1 np6, g6, hp6, ?_, ?_⟩
    · rw [List.length_map]
      exact small1000' (by omega)
    have k7 : KeepT H6 (upd H6 kA (.dK (mergeD kvs (letK ds[i])))) := KeepT.upd (fun xs e => by rw [g6] at e; cases e) (fun u xs e => by rw [g6] at e; cases e)
    have hk7 : KnAt (upd H6 kA (.dK (mergeD kvs (letK ds[i])))) kA (kn ++ letsL ds[i]) := ⟨_, upd_same, KnAt.put g6 g2 hll2 hnot⟩
    have hf7 : upd H6 kA (.dK (mergeD kvs (letK ds[i]))) fA = some (.lst us) := by
      rw [upd_ne hfk]
      exact s6 _ _ (s45 _ _ hfT)
    have kk7 : ∀ b o, b ≠ kA → b ≠ fA → H2 b = some o → upd H6 kA (.dK (mergeD kvs (letK ds[i]))) b = some o := fun b o h1 h2 e => by
      rw [upd_ne h1]
      exact s6 _ _ (s45 _ _ (kkT b o h1 h2 e))
    have hv7 := ((hv.keep (KeepO.of s5)).keep (KeepO.of s6)).keep (kf0 k7)
    have hA7 := ((hAT.keep (KeepO.of s45)).keep (KeepO.of s6)).keep (kf0 k7)
    revert hk7 hf7 kk7 hv7 hA7
    generalize upd H6 kA (.dK (mergeD kvs (letK ds[i]))) = H7
    intro hk7 hf7 kk7 hv7 hA7
    have hAl := hA7.len
    have k8 : KeepT H7 (upd H7 fA (.lst (us ++ [v]))) := KeepT.lst hf7
    refine ⟨.ref fA, rfl, .inl ⟨rfl, _, .inl (.inl hf7)⟩, v, rfl, fA, us, v, rfl, rfl, hf7, ?_, _, _, _, kn ++ letsL ds[i], us ++ [v], rfl, ?_, ?_, upd_same, ?_, c3, fun b o h1 h2 e => ?_⟩
    · rw [List.length_take] at hAl
      exact small1000 (by omega)
    · obtain ⟨kv7, e7, e7'⟩ := hk7
      exact ⟨kv7, by rw [upd_ne hfk.symm]; exact e7, e7'⟩
    · rw [List.length_append]
      omega
    · rw [take_at hdi]
      exact DdAll.app (hA7.keep (kf0 k8)) (.cons (hv7.keep (kf0 k8)) .nil)
    · rw [upd_ne h2]
      exact kk7 b o h1 h2 e
  · rintro σ H' ⟨y1, y2, y3, kn, us, rfl, hk, hkl, hf, hA, hg, kk⟩
    rw [hll, List.take_length] at hA
    refine ⟨.ref fA, rfl, fA, us, rfl, .inl ⟨.inl (.inl hf), fun t nt => ?_⟩⟩
    have st := same_upd (o := .tup us) nt
    exact q _ _ (fun b o e => st _ _ (kk b o (ne_of_none e nk) (ne_of_none e nf0) (s02 _ _ e))) (.tup (.inl (.inl upd_same)) (hA.keep (KeepO.of st)))
end
end L10

/-! a text is of one thing only -/
namespace L10
open PySem PySem.Spec PyProof.Rows L2 GR AD RZ WX ZE TX RVT
open SX (S S_cat S_len S_inj)
theorem cutZ {Z : Str} : ∀ {u v r s : List Nat}, (∀ c, c ∈ u → c ∈ wd Z) → (∀ c, c ∈ v → c ∈ wd Z) → nextIn Z r = false → nextIn Z s = false → u ++ r = v ++ s → u = v ∧ r = s
  | [], [], _, _, _, _, _, _, e => ⟨rfl, e⟩
  | [], c :: v, r, s, _, hv, hr, _, e => by
    have e : r = c :: (v ++ s) := e
    rw [e] at hr
    exact absurd (hv c List.mem_cons_self) (of_decide_eq_false hr)
  | c :: u, [], r, s, hu, _, _, hs, e => by
    have e : c :: (u ++ r) = s := e
    rw [← e] at hs
    exact absurd (hu c List.mem_cons_self) (of_decide_eq_false hs)
  | c :: u, c' :: v, r, s, hu, hv, hr, hs, e => by
    have e : c :: (u ++ r) = c' :: (v ++ s) := e
    injection e with e1 e2
    obtain ⟨h1, h2⟩ := cutZ (fun x hx => hu x (List.mem_cons_of_mem _ hx)) (fun x hx => hv x (List.mem_cons_of_mem _ hx)) hr hs e2
    exact ⟨by rw [e1, h1], h2⟩
theorem wd_inj {a b : Str} (h : wd a = wd b) : a = b := by rw [← S_wd a, ← S_wd b, h]
theorem num_inj {i j : Int} (h1 : -(10 ^ 18) ≤ i) (h2 : i ≤ 10 ^ 18) (h3 : -(10 ^ 18) ≤ j) (h4 : j ≤ 10 ^ 18) (e : num i = num j) : i = j := by
  have a := num_read h1 h2
  rw [e, num_read h3 h4] at a
  exact (Option.some.inj a).symm
theorem num_cut {i j : Int} {r s : List Nat} (h1 : -(10 ^ 18) ≤ i) (h2 : i ≤ 10 ^ 18) (h3 : -(10 ^ 18) ≤ j) (h4 : j ≤ 10 ^ 18) (hr : nextIn DG r = false) (hs : nextIn DG s = false) (e : num i ++ r = num j ++ s) : i = j ∧ num i = num j ∧ r = s := by
  obtain ⟨g1, d1, f1, n1, a1⟩ := num_form i
  obtain ⟨g2, d2, f2, n2, a2⟩ := num_form j
  have m1 : ∀ c, c ∈ d1 → c ∈ wd DG := fun c hc => dg_mem (List.all_eq_true.mp a1 c hc)
  have m2 : ∀ c, c ∈ d2 → c ∈ wd DG := fun c hc => dg_mem (List.all_eq_true.mp a2 c hc)
  have key : num i = num j ∧ r = s := by
    rw [f1, f2] at e ⊢
    cases g1 with
    | true =>
      cases g2 with
      | true =>
        have e : 45 :: (d1 ++ r) = 45 :: (d2 ++ s) := e
        injection e with _ e
        obtain ⟨h, h'⟩ := cutZ m1 m2 hr hs e
        exact ⟨by rw [h], h'⟩
      | false =>
        cases d2 with
        | nil => exact absurd rfl n2
        | cons c d2 =>
          have e : 45 :: (d1 ++ r) = c :: (d2 ++ s) := e
          injection e with e1 _
          rw [List.all_cons, Bool.and_eq_true, ← e1] at a2
          exact absurd a2.1 (by decide)
    | false =>
      cases g2 with
      | true =>
        cases d1 with
        | nil => exact absurd rfl n1
        | cons c d1 =>
          have e : c :: (d1 ++ r) = 45 :: (d2 ++ s) := e
          injection e with e1 _
          rw [List.all_cons, Bool.and_eq_true, e1] at a1
          exact absurd a1.1 (by decide)
      | false =>
        have e : d1 ++ r = d2 ++ s := e
        obtain ⟨h, h'⟩ := cutZ m1 m2 hr hs e
        exact ⟨by rw [h], h'⟩
  exact ⟨num_inj h1 h2 h3 h4 key.1, key.1, key.2⟩
/-- one depth's texts are of one thing -/
def Det (n : Nat) : Prop := ∀ {m : Nat} {d e : PyData} {l l' r s : List Nat}, Tx n d l → Tx m e l' → Fo r → Fo s → l ++ r = l' ++ s → d = e ∧ l = l' ∧ r = s
theorem cR_det {n m : Nat} (D : Det n) : ∀ {xs ys : List PyData} {ls ms : List (List Nat)} {r s : List Nat}, xs.length = ys.length → ls.length = xs.length → ms.length = ys.length → (∀ p, p ∈ xs.zip ls → Tx n p.1 p.2) → (∀ p, p ∈ ys.zip ms → Tx m p.1 p.2) → Fo r → Fo s → cR ls ++ r = cR ms ++ s → xs = ys ∧ ls = ms ∧ r = s
  | [], [], [], [], _, _, _, _, _, _, _, _, _, e => ⟨rfl, rfl, e⟩
  | [], [], _ :: _, _, _, _, _, h, _, _, _, _, _, _ => by cases h
  | [], [], [], _ :: _, _, _, _, _, h, _, _, _, _, _ => by cases h
  | [], _ :: _, _, _, _, _, h, _, _, _, _, _, _, _ => by cases h
  | _ :: _, [], _, _, _, _, h, _, _, _, _, _, _, _ => by cases h
  | _ :: _, _ :: _, [], _, _, _, _, h, _, _, _, _, _, _ => by cases h
  | _ :: _, _ :: _, _ :: _, [], _, _, _, _, h, _, _, _, _, _ => by cases h
  | x :: xs, y :: ys, l :: ls, k :: ms, r, s, h, h1, h2, t1, t2, hr, hs, e => by
    have e : 44 :: 32 :: ((l ++ cR ls) ++ r) = 44 :: 32 :: ((k ++ cR ms) ++ s) := e
    injection e with _ e
    injection e with _ e
    rw [List.append_assoc, List.append_assoc] at e
    obtain ⟨a1, a2, a3⟩ := D (t1 (x, l) (by rw [List.zip_cons_cons]; exact List.mem_cons_self)) (t2 (y, k) (by rw [List.zip_cons_cons]; exact List.mem_cons_self)) (fo_cR ls hr) (fo_cR ms hs) e
    obtain ⟨b1, b2, b3⟩ := cR_det D (xs := xs) (ys := ys) (by simpa using h) (by simpa using h1) (by simpa using h2) (fun p hp => t1 p (by rw [List.zip_cons_cons]; exact List.mem_cons_of_mem _ hp)) (fun p hp => t2 p (by rw [List.zip_cons_cons]; exact List.mem_cons_of_mem _ hp)) hr hs a3
    exact ⟨by rw [show x = y from a1, b1], by rw [show l = k from a2, b2], b3⟩
theorem commas_det {n m : Nat} (D : Det n) {xs ys : List PyData} {ls ms : List (List Nat)} {r s : List Nat} (h : xs.length = ys.length) (h1 : ls.length = xs.length) (h2 : ms.length = ys.length) (t1 : ∀ p, p ∈ xs.zip ls → Tx n p.1 p.2) (t2 : ∀ p, p ∈ ys.zip ms → Tx m p.1 p.2) (hr : Fo r) (hs : Fo s) (e : commas ls ++ r = commas ms ++ s) : xs = ys ∧ ls = ms ∧ r = s := by
  match xs, ys, ls, ms, h, h1, h2, t1, t2, e with
  | [], [], [], [], _, _, _, _, _, e => exact ⟨rfl, rfl, e⟩
  | [], [], _ :: _, _, _, h, _, _, _, _ => cases h
  | [], [], [], _ :: _, _, _, h, _, _, _ => cases h
  | [], _ :: _, _, _, h, _, _, _, _, _ => cases h
  | _ :: _, [], _, _, h, _, _, _, _, _ => cases h
  | _ :: _, _ :: _, [], _, _, h, _, _, _, _ => cases h
  | _ :: _, _ :: _, _ :: _, [], _, _, h, _, _, _ => cases h
  | x :: xs, y :: ys, l :: ls, k :: ms, h, h1, h2, t1, t2, e =>
    rw [commas_cons, commas_cons, List.append_assoc, List.append_assoc] at e
    obtain ⟨a1, a2, a3⟩ := D (t1 (x, l) (by rw [List.zip_cons_cons]; exact List.mem_cons_self)) (t2 (y, k) (by rw [List.zip_cons_cons]; exact List.mem_cons_self)) (fo_cR ls hr) (fo_cR ms hs) e
    obtain ⟨b1, b2, b3⟩ := cR_det D (xs := xs) (ys := ys) (by simpa using h) (by simpa using h1) (by simpa using h2) (fun p hp => t1 p (by rw [List.zip_cons_cons]; exact List.mem_cons_of_mem _ hp)) (fun p hp => t2 p (by rw [List.zip_cons_cons]; exact List.mem_cons_of_mem _ hp)) hr hs a3
    exact ⟨by rw [show x = y from a1, b1], by rw [show l = k from a2, b2], b3⟩
theorem fo_not {c : Nat} {t r : List Nat} (h : Fo r) (e : r = c :: t) (hc : c = 40 ∨ c = 91) : False := by
  rcases h with rfl | ⟨c', t', rfl, h⟩
  · cases e
  · injection e with e1 _
    omega
theorem callk_fun {o : Str} {a b : Nat} (h1 : (o, a) ∈ callk) (h2 : (o, b) ∈ callk) : a = b := by
  simp only [callk, List.mem_cons, List.not_mem_nil, or_false, Prod.mk.injEq] at h1 h2
  rcases h1 with ⟨rfl, rfl⟩ | ⟨rfl, rfl⟩ <;> rcases h2 with ⟨e, rfl⟩ | ⟨e, rfl⟩ <;> first | rfl | exact absurd e (by decide)
theorem aggn_fun {o : Str} {a b : Nat} (h1 : (o, a) ∈ aggn) (h2 : (o, b) ∈ aggn) : a = b := by
  simp only [aggn, List.mem_cons, List.not_mem_nil, or_false, Prod.mk.injEq] at h1 h2
  rcases h1 with ⟨rfl, rfl⟩ | ⟨rfl, rfl⟩ | ⟨rfl, rfl⟩ | ⟨rfl, rfl⟩ <;> rcases h2 with ⟨e, rfl⟩ | ⟨e, rfl⟩ | ⟨e, rfl⟩ | ⟨e, rfl⟩ <;> first | rfl | exact absurd e (by decide)
theorem call_agg {o : Str} {a b : Nat} (h1 : (o, a) ∈ callk) (h2 : (o, b) ∈ aggn) : False := by
  simp only [callk, aggn, List.mem_cons, List.not_mem_nil, or_false, Prod.mk.injEq] at h1 h2
  rcases h1 with ⟨rfl, rfl⟩ | ⟨rfl, rfl⟩ <;> rcases h2 with ⟨e, rfl⟩ | ⟨e, rfl⟩ | ⟨e, rfl⟩ | ⟨e, rfl⟩ <;> exact absurd e (by decide)
theorem Cl.det {n m : Nat} (D : Det n) {o : Str} {d e : PyData} {l l' r s : List Nat} (h : Cl n o d l) (h' : Cl m o e l') (hr : Fo r) (hs : Fo s) (he : l ++ r = l' ++ s) : d = e ∧ l = l' ∧ r = s := by
  have f41 : ∀ r, Fo (41 :: r) := fun r => Fo.c (.inr (.inl rfl))
  cases h with
  | call xs ls ho hl hts =>
    cases h' with
    | call ys ms ho' hl' hts' =>
      have he : 40 :: ((commas ls ++ [41]) ++ r) = 40 :: ((commas ms ++ [41]) ++ s) := he
      injection he with _ he
      rw [List.append_assoc, List.append_assoc] at he
      obtain ⟨a1, a2, a3⟩ := commas_det D (callk_fun ho ho') hl hl' hts hts' (f41 r) (f41 s) he
      injection a3 with _ a3
      exact ⟨by rw [a1], by rw [a2], a3⟩
    | agg t ys ms h2 ho' ht' hl' hts' => exact (call_agg ho ho').elim
  | agg t xs ls h2 ho ht hl hts =>
    cases h' with
    | call ys ms ho' hl' hts' => exact (call_agg ho' ho).elim
    | agg t' ys ms h2' ho' ht' hl' hts' =>
      have he : 40 :: ((wd t ++ (44 :: 32 :: (commas ls ++ [41]))) ++ r) = 40 :: ((wd t' ++ (44 :: 32 :: (commas ms ++ [41]))) ++ s) := he
      injection he with _ he
      rw [List.append_assoc, List.append_assoc] at he
      obtain ⟨a0, a1⟩ := cutZ (nm_low ht) (nm_low ht') (by exact (by decide +kernel : decide (44 ∈ wd L26) = false)) (by exact (by decide +kernel : decide (44 ∈ wd L26) = false)) he
      have a1 : 44 :: 32 :: ((commas ls ++ [41]) ++ r) = 44 :: 32 :: ((commas ms ++ [41]) ++ s) := a1
      injection a1 with _ a1
      injection a1 with _ a1
      rw [List.append_assoc, List.append_assoc] at a1
      obtain ⟨b1, b2, b3⟩ := commas_det D (aggn_fun ho ho') hl hl' hts hts' (f41 r) (f41 s) a1
      injection b3 with _ b3
      have et := wd_inj a0
      subst et
      exact ⟨by rw [b1], by rw [b2], b3⟩
theorem Wc.nx {n : Nat} {d : PyData} {o : Str} {l r : List Nat} (h : Wc n d o l) (hr : Fo r) : nextIn L26 (l ++ r) = false := by
  cases h with
  | key => exact hr.l26
  | var z hz => exact hr.l26
  | cell t v x l h1 h2 hx => exact (by decide +kernel : decide (91 ∈ wd L26) = false)
  | call o d l hc => cases hc <;> exact (by decide +kernel : decide (40 ∈ wd L26) = false)
theorem Cl.head {n : Nat} {o : Str} {d : PyData} {l : List Nat} (h : Cl n o d l) : ∃ t, l = 40 :: t := by
  cases h <;> exact ⟨_, rfl⟩
theorem Wc.det {n m : Nat} (D : Det n) {o : Str} {d e : PyData} {l l' r s : List Nat} (h : Wc n d o l) (h' : Wc m e o l') (hr : Fo r) (hs : Fo s) (he : l ++ r = l' ++ s) : d = e ∧ l = l' ∧ r = s := by
  cases h with
  | key =>
    cases h' with
    | key => exact ⟨rfl, rfl, he⟩
    | var _ hz => exact absurd (by decide : ("key" : Str) ∈ barred) hz.2.2.2
    | cell _ v x l2 h1 h2 hx => exact (fo_not hr he (.inr rfl)).elim
    | call _ _ _ hc =>
      obtain ⟨t, rfl⟩ := hc.head
      exact (fo_not hr he (.inl rfl)).elim
  | var _ hz =>
    cases h' with
    | key => exact absurd (by decide : ("key" : Str) ∈ barred) hz.2.2.2
    | var _ hz' => exact ⟨rfl, rfl, he⟩
    | cell _ v x l2 h1 h2 hx => exact (fo_not hr he (.inr rfl)).elim
    | call _ _ _ hc =>
      obtain ⟨t, rfl⟩ := hc.head
      exact (fo_not hr he (.inl rfl)).elim
  | cell _ v x l1 h1 h2 hx =>
    cases h' with
    | key => exact (fo_not hs he.symm (.inr rfl)).elim
    | var _ hz' => exact (fo_not hs he.symm (.inr rfl)).elim
    | cell _ v' x' l2 h1' h2' hx' =>
      have he : 91 :: ((l1 ++ (93 :: 46 :: wd v)) ++ r) = 91 :: ((l2 ++ (93 :: 46 :: wd v')) ++ s) := he
      injection he with _ he
      rw [List.append_assoc, List.append_assoc] at he
      obtain ⟨a1, a2, a3⟩ := D hx hx' (Fo.c (.inr (.inr (.inr rfl)))) (Fo.c (.inr (.inr (.inr rfl)))) he
      have a3 : 93 :: 46 :: (wd v ++ r) = 93 :: 46 :: (wd v' ++ s) := a3
      injection a3 with _ a3
      injection a3 with _ a3
      obtain ⟨b1, b2⟩ := cutZ (nm_low h2) (nm_low h2') hr.l26 hs.l26 a3
      have ev := wd_inj b1
      subst ev
      exact ⟨by rw [a1], by rw [a2], b2⟩
    | call _ _ _ hc =>
      obtain ⟨t, rfl⟩ := hc.head
      have he : 91 :: ((l1 ++ (93 :: 46 :: wd v)) ++ r) = 40 :: (t ++ s) := he
      injection he with he _
      cases he
  | call _ _ _ hc =>
    cases h' with
    | key =>
      obtain ⟨t, rfl⟩ := hc.head
      exact (fo_not hs he.symm (.inl rfl)).elim
    | var _ hz' =>
      obtain ⟨t, rfl⟩ := hc.head
      exact (fo_not hs he.symm (.inl rfl)).elim
    | cell _ v x l2 h1 h2 hx =>
      obtain ⟨t, rfl⟩ := hc.head
      have he : 40 :: (t ++ r) = 91 :: ((l2 ++ (93 :: 46 :: wd v)) ++ s) := he
      injection he with he _
      cases he
    | call _ _ _ hc' => exact Cl.det D hc hc' hr hs he
theorem ops_one {o : Str} (h : o ∈ ops5) : ∃ c, wd o = [c] := by
  simp only [ops5, List.mem_cons, List.not_mem_nil, or_false] at h
  rcases h with rfl | rfl | rfl | rfl | rfl <;> exact ⟨_, rfl⟩
theorem Tx.det (n : Nat) : Det n := by
  induction n with
  | zero =>
    intro m d e l l' r s h
    cases h
  | succ n D =>
    intro m d e l l' r s h h' hr hs he
    obtain ⟨m', rfl⟩ : ∃ m', m = m' + 1 := by
      cases m with
      | zero => cases h'
      | succ m => exact ⟨m, rfl⟩
    rcases h.split with ⟨v, h1, h2, rfl, rfl⟩ | ⟨o, x, y, l1, l2, ho, hx, hy, rfl, rfl⟩ | ⟨o, l0, hW, rfl, hLow, h26⟩
    · rcases h'.split with ⟨v', h1', h2', rfl, rfl⟩ | ⟨o', x', y', l1', l2', ho', hx', hy', rfl, rfl⟩ | ⟨o', l0', hW', rfl, hLow', h26'⟩
      · obtain ⟨a, b, c⟩ := num_cut h1 h2 h1' h2' hr.dg hs.dg he
        subst a
        exact ⟨rfl, rfl, c⟩
      · have := (num_no v r).1
        rw [he] at this
        cases this
      · have := (num_no v r).2
        rw [he, List.append_assoc, (hLow'.app (r := l0' ++ s)).no.2] at this
        cases this
    · rcases h'.split with ⟨v', h1', h2', rfl, rfl⟩ | ⟨o', x', y', l1', l2', ho', hx', hy', rfl, rfl⟩ | ⟨o', l0', hW', rfl, hLow', h26'⟩
      · have := (num_no v' s).1
        rw [← he] at this
        cases this
      · have he : 40 :: ((l1 ++ (32 :: (wd o ++ (32 :: (l2 ++ [41]))))) ++ r) = 40 :: ((l1' ++ (32 :: (wd o' ++ (32 :: (l2' ++ [41]))))) ++ s) := he
        injection he with _ he
        rw [List.append_assoc, List.append_assoc] at he
        obtain ⟨a1, a2, a3⟩ := D hx hx' (Fo.c (.inl rfl)) (Fo.c (.inl rfl)) he
        obtain ⟨c, hc⟩ := ops_one ho
        obtain ⟨c', hc'⟩ := ops_one ho'
        rw [hc, hc'] at a3
        have a3 : 32 :: c :: 32 :: ((l2 ++ [41]) ++ r) = 32 :: c' :: 32 :: ((l2' ++ [41]) ++ s) := a3
        injection a3 with _ a3
        injection a3 with ec a3
        injection a3 with _ a3
        rw [List.append_assoc, List.append_assoc] at a3
        obtain ⟨b1, b2, b3⟩ := D hy hy' (Fo.c (.inr (.inl rfl))) (Fo.c (.inr (.inl rfl))) a3
        injection b3 with _ b3
        have eo : o = o' := wd_inj (by rw [hc, hc', ec])
        subst eo
        exact ⟨by rw [a1, b1], by rw [a2, b2], b3⟩
      · have := (hLow'.app (r := l0' ++ s)).no.1
        rw [← List.append_assoc, ← he] at this
        cases this
    · rcases h'.split with ⟨v', h1', h2', rfl, rfl⟩ | ⟨o', x', y', l1', l2', ho', hx', hy', rfl, rfl⟩ | ⟨o', l0', hW', rfl, hLow', h26'⟩
      · have := (num_no v' s).2
        rw [← he, List.append_assoc, (hLow.app (r := l0 ++ r)).no.2] at this
        cases this
      · have := (hLow.app (r := l0 ++ r)).no.1
        rw [← List.append_assoc, he] at this
        cases this
      · rw [List.append_assoc, List.append_assoc] at he
        obtain ⟨a1, a2⟩ := cutZ h26 h26' (hW.nx hr) (hW'.nx hs) he
        have eo := wd_inj a1
        subst eo
        obtain ⟨b1, b2, b3⟩ := Wc.det D hW hW' hr hs a2
        exact ⟨b1, by rw [b2], b3⟩
theorem Tx.one {n m : Nat} {d e : PyData} {l : List Nat} (h : Tx n d l) (h' : Tx m e l) : d = e := (Tx.det n h h' (.inl rfl) (.inl rfl) rfl).1
theorem Sx.same {n m : Nat} {d e : PyData} {l : List Nat} (h : Sx n d l) : Sx m e l → d = e := by
  have no32 : ∀ t, nextIn L26 (32 :: t) = false := fun t => by exact (by decide +kernel : decide (32 ∈ wd L26) = false)
  have no91 : ∀ t, nextIn L26 (91 :: t) = false := fun t => by exact (by decide +kernel : decide (91 ∈ wd L26) = false)
  have f0 : Fo [] := .inl rfl
  intro h'
  generalize el : l = l' at h'
  cases h with
  | let_ z x l1 hz hx =>
    cases h' with
    | let_ z' x' l1' hz' hx' =>
      have el := (List.append_cancel_left_eq tLet _ _).mp el
      obtain ⟨a1, a2⟩ := cutZ (nm_low hz) (nm_low hz') (no32 _) (no32 _) el
      have a2 := (List.append_cancel_left_eq tEq _ _).mp a2
      rw [a2] at hx
      rw [wd_inj a1, hx.one hx']
    | one o x' l1' ho hx' => rcases ho with rfl | rfl <;> (injection el with el _; cases el)
    | put t c k x l m ht hc hk hx => injection el with el _; cases el
    | each t c k x l m ht hc hk hx => injection el with el _; cases el
  | one o x l1 ho hx =>
    cases h' with
    | let_ z' x' l1' hz' hx' => rcases ho with rfl | rfl <;> (injection el with el _; cases el)
    | one o' x' l1' ho' hx' =>
      rcases ho with rfl | rfl <;> rcases ho' with rfl | rfl
      · have el := (List.append_cancel_left_eq (wd "need" ++ [32]) _ _).mp (by simpa only [List.append_assoc] using el)
        rw [el] at hx
        rw [hx.one hx']
      · injection el with el _; cases el
      · injection el with el _; cases el
      · have el := (List.append_cancel_left_eq (wd "tell" ++ [32]) _ _).mp (by simpa only [List.append_assoc] using el)
        rw [el] at hx
        rw [hx.one hx']
    | put t c k x l m ht hc hk hx => rcases ho with rfl | rfl <;> (injection el with el _; cases el)
    | each t c k x l m ht hc hk hx => rcases ho with rfl | rfl <;> (injection el with el _; cases el)
  | put t c k x l1 m1 ht hc hk hx =>
    cases h' with
    | let_ z' x' l1' hz' hx' => injection el with el _; cases el
    | one o x' l1' ho hx' => rcases ho with rfl | rfl <;> (injection el with el _; cases el)
    | put t' c' k' x' l1' m1' ht' hc' hk' hx' =>
      have el := (List.append_cancel_left_eq tPut _ _).mp el
      obtain ⟨a1, a2⟩ := cutZ (nm_low ht) (nm_low ht') (no91 _) (no91 _) el
      have a2 := (List.append_cancel_left_eq [91] _ _).mp a2
      obtain ⟨b1, b2, b3⟩ := Tx.det n hk hk' (Fo.c (.inr (.inr (.inr rfl)))) (Fo.c (.inr (.inr (.inr rfl)))) a2
      have b3 := (List.append_cancel_left_eq tBr _ _).mp b3
      obtain ⟨c1, c2⟩ := cutZ (nm_low hc) (nm_low hc') (no32 _) (no32 _) b3
      have c2 := (List.append_cancel_left_eq tEq _ _).mp c2
      rw [c2] at hx
      rw [wd_inj a1, b1, wd_inj c1, hx.one hx']
    | each t' c' k' x' l1' m1' ht' hc' hk' hx' => injection el with el _; cases el
  | each t c k x l1 m1 ht hc hk hx =>
    cases h' with
    | let_ z' x' l1' hz' hx' => injection el with el _; cases el
    | one o x' l1' ho hx' => rcases ho with rfl | rfl <;> (injection el with el _; cases el)
    | put t' c' k' x' l1' m1' ht' hc' hk' hx' => injection el with el _; cases el
    | each t' c' k' x' l1' m1' ht' hc' hk' hx' =>
      have el := (List.append_cancel_left_eq tEach _ _).mp el
      obtain ⟨a1, a2⟩ := cutZ (nm_low ht) (nm_low ht') (no32 _) (no32 _) el
      have a2 := (List.append_cancel_left_eq tIf _ _).mp a2
      obtain ⟨b1, b2, b3⟩ := Tx.det n hk hk' (Fo.c (.inl rfl)) (Fo.c (.inl rfl)) a2
      have b3 := (List.append_cancel_left_eq tP2 _ _).mp b3
      obtain ⟨c1, c2⟩ := cutZ (nm_low hc) (nm_low hc') (no32 _) (no32 _) b3
      have c2 := (List.append_cancel_left_eq tEq _ _).mp c2
      rw [c2] at hx
      rw [wd_inj a1, b1, wd_inj c1, hx.one hx']
/-- equal rows, equal statements -/
theorem Tt.one {n m : Nat} {ds es : List PyData} {ls ms : List (List Nat)} (h : Tt n ds ls) (h' : Tt m es ms) (e : rows ls = rows ms) : ds = es := by
  have prop : ∀ {n : Nat} {ds : List PyData} {ls : List (List Nat)}, Tt n ds ls → ∀ l, l ∈ ls → 10 ∉ l ∧ l ≠ [] := fun {n ds ls} h l hm => by
    obtain ⟨i, hi, rfl⟩ := List.getElem_of_mem hm
    have hx : i < ds.length := by rw [← h.len]; exact hi
    obtain ⟨l', h1, h2, _⟩ := h.at (List.getElem?_eq_getElem hx)
    rw [List.getElem?_eq_getElem hi] at h1
    obtain rfl := Option.some.inj h1
    exact ⟨h2.no10, h2.ne⟩
  have p1 := prop h
  have p2 := prop h'
  have nz : ∀ {ls : List (List Nat)}, (∀ l, l ∈ ls → 10 ∉ l ∧ l ≠ []) → ls ≠ [] → rows ls ≠ [] := fun {ls} hp hne => by
    cases ls with
    | nil => exact absurd rfl hne
    | cons l r =>
      have h0 := (hp l List.mem_cons_self).2
      cases r with
      | nil => exact h0
      | cons k r =>
        show l ++ ([10] ++ rows (k :: r)) ≠ []
        intro e
        exact h0 (List.append_eq_nil_iff.mp e).1
  have els : ls = ms := by
    by_cases hl : ls = []
    · subst hl
      by_cases hm : ms = []
      · rw [hm]
      · exact absurd e.symm (nz p2 hm)
    · by_cases hm : ms = []
      · subst hm
        exact absurd e (nz p1 hl)
      · have a := SX.spl_join (c := 10) (sep := []) hl fun p hp => (p1 p hp).1
        have b := SX.spl_join (c := 10) (sep := []) hm fun p hp => (p2 p hp).1
        have e' : TL.joinL [10] ls = TL.joinL [10] ms := e
        rw [e'] at a
        exact a.symm.trans b
  subst els
  refine List.ext_getElem? fun i => ?_
  by_cases hi : i < ds.length
  · have hi' : i < es.length := by rw [← h'.len, h.len]; exact hi
    obtain ⟨l1, a1, a2, _⟩ := h.at (List.getElem?_eq_getElem hi)
    obtain ⟨l2, b1, b2, _⟩ := h'.at (List.getElem?_eq_getElem hi')
    rw [a1] at b1
    obtain rfl := Option.some.inj b1
    rw [List.getElem?_eq_getElem hi, List.getElem?_eq_getElem hi', a2.same b2]
  · have hi' : ¬ i < es.length := by rw [← h'.len, h.len]; exact hi
    rw [List.getElem?_eq_none (by omega), List.getElem?_eq_none (by omega)]
end L10

/-! the law's own texts -/
namespace L10
open PySem PySem.Spec PyProof.Rows L2 GR AD RZ WX ZE TX RVT
open SX (S S_cat S_len S_inj)
section
variable {P : Program} {w : World} {K : PySem.W.Frag} {mg : Str → Option Value} {base : Heap}
abbrev s_law_text : Stmt := topS 81
abbrev N_lt : List Str := ["_law_thing", "_law_word", "_law_one"]
theorem sc_law_text : FnScope N_lt ["_law_thing"] (defScope s_law_text) := ⟨rfl, rfl, rfl, by decide +kernel, rfl, by decide +kernel, by decide +kernel⟩
def sp_ltext (K : PySem.W.Frag) (n : Nat) : Sp := fun vs H Q _ => ∃ (v : V) (d : PyData) (l : List Nat), vs = [v] ∧ Dd K F0 H v d ∧ Tx n d l ∧ sz d ≤ 100000 ∧ ∀ H', Same H H' → Q (.str (S l)) H'
theorem sz_kid {y : PyData} {ys : List PyData} (h : y ∈ ys) : sz y ≤ szs ys := sz_mem h
theorem slen (a : Str) : a.length = (wd a).length := by
  conv => lhs; rw [← S_wd a]
  rw [S_len]
theorem ok_ltext_zero {f : Addr} {fd : FuncData} {k : Nat} (F : Fun K "_law_text" "_law_text" s_law_text f fd) : FnOk P w K mg base CX0 (k + 1) f fd ["_law_thing"] (sp_ltext K 0) := by
  refine F.ok sc_law_text (fun vs H Q E h => ?_) (fun cdv A outer s H vs Q E hr h => ?_)
  · obtain ⟨v, d, l, rfl, _⟩ := h
    rfl
  · obtain ⟨v, d, l, rfl, hd, ht, _⟩ := h
    cases ht
theorem ok_ltext_step {f : Addr} {fd : FuncData} {k n : Nat} (F : Fun K "_law_text" "_law_text" s_law_text f fd) (X : DF P w K mg base "_law_text" ["_law_thing"] (sp_ltext K n) k) (mstr : mg "str" = none) : FnOk P w K mg base CX0 (k + 1) f fd ["_law_thing"] (sp_ltext K (n + 1)) := by
  have nd := sc_law_text.nd
  refine F.ok sc_law_text (fun vs H Q E h => ?_) (fun cdv A outer s H vs Q E hr h => ?_)
  · obtain ⟨v, d, l, rfl, _⟩ := h
    rfl
  obtain ⟨v, d, l, rfl, hd, ht, hz, q⟩ := h
  obtain ⟨fx, dx, G, g, Kf, b⟩ := X
  refine ⟨_, (pss_cons (ps_set (i := 1) nd rfl (.inl rfl) (pe_ix ix_tup (pv 0) pe_int (fun _ _ => rfl)))
      (pss_cons (ps_if (pt_cmpR op_eq (pv 1) pe_str (nomark _))
      (pss_one (ps_ret (pe_callTy call_str_int (by rfl) mstr boot_str (pa_cons (pe_ix ix_tup (pv 0) pe_int (fun _ _ => rfl)) pa_nil))))
      pss_nil)
      (pss_cons (ps_if (pt_cmpR op_eq (pv 1) pe_str (nomark _))
      (pss_one (ps_ret (pe_ix ix_tup (pv 0) pe_int (fun _ _ => rfl))))
      pss_nil)
      (pss_cons (ps_if (pt_cmpR op_eq (pv 1) pe_str (nomark _))
      (pss_one (ps_ret pe_str))
      pss_nil)
      (pss_cons (ps_if (pt_cmpR op_eq (pv 1) pe_str (nomark _))
      (pss_one (ps_ret (pe_op op_add_str (pe_op op_add_str (pe_op op_add_str (pe_op op_add_str (pe_ix ix_tup (pv 0) pe_int (fun _ _ => rfl)) pe_str) (pe_call G hr (by rfl) g Kf b .nil pass0 (pa_cons (pe_ix ix_tup (pv 0) pe_int (fun _ _ => rfl)) pa_nil))) pe_str) (pe_ix ix_tup (pv 0) pe_int (fun _ _ => rfl)))))
      pss_nil)
      (pss_cons (ps_if (pt_cmpR op_in_seq (pv 1) (pe_tup (pa_cons pe_str (pa_cons pe_str pa_nil))) (by rfl))
      (pss_one (ps_ret (pe_op op_add_str (pe_op op_add_str (pe_op op_add_str (pv 1) pe_str) (pe_join pe_str (pe_lc (own := [("_law_one", 2)]) (tt := tYes) (te := tCall (sp_ltext K n) [] E0 (tCons (tVar 2) tNil)) rfl nd (pi_tup (pe_slice L2.sl_tup (pv 0) (po_some pe_int) po_none)) (blkOk_by (N := N_lt) (sc := defScope s_law_text) (by decide +kernel)) (fun _ _ _ _ _ => (pg_name (i := 2) nd rfl (Or.inl rfl))) (fun _ _ _ _ _ => pts_nil) (fun _ _ _ _ _ => (pe_call G hr (by rfl) g Kf b .nil pass0 (pa_cons (pv 2) pa_nil)))))) pe_str)))
      pss_nil)
      (pss_cons (ps_if (pt_cmpR op_in_seq (pv 1) (pe_tup (pa_cons pe_str (pa_cons pe_str (pa_cons pe_str (pa_cons pe_str pa_nil))))) (by rfl))
      (pss_one (ps_ret (pe_op op_add_str (pe_op op_add_str (pe_op op_add_str (pv 1) pe_str) (pe_join pe_str (pe_op op_cat (pe_lst (pa_cons (pe_ix ix_tup (pv 0) pe_int (fun _ _ => rfl)) pa_nil)) (pe_lc (own := [("_law_one", 2)]) (tt := tYes) (te := tCall (sp_ltext K n) [] E0 (tCons (tVar 2) tNil)) rfl nd (pi_tup (pe_slice L2.sl_tup (pv 0) (po_some pe_int) po_none)) (blkOk_by (N := N_lt) (sc := defScope s_law_text) (by decide +kernel)) (fun _ _ _ _ _ => (pg_name (i := 2) nd rfl (Or.inl rfl))) (fun _ _ _ _ _ => pts_nil) (fun _ _ _ _ _ => (pe_call G hr (by rfl) g Kf b .nil pass0 (pa_cons (pv 2) pa_nil))))))) pe_str)))
      pss_nil)
      (pss_one (ps_ret (pe_op op_add_str (pe_op op_add_str (pe_op op_add_str (pe_op op_add_str (pe_op op_add_str (pe_op op_add_str pe_str (pe_call G hr (by rfl) g Kf b .nil pass0 (pa_cons (pe_ix ix_tup (pv 0) pe_int (fun _ _ => rfl)) pa_nil))) pe_str) (pv 1)) pe_str) (pe_call G hr (by rfl) g Kf b .nil pass0 (pa_cons (pe_ix ix_tup (pv 0) pe_int (fun _ _ => rfl)) pa_nil))) pe_str)))))))))), ?_⟩
  have htl := ht.len
  have tst : ∀ {w x : Str} {A B : Prop}, w ≠ x → B → (if decide (V.str w = V.str x) = true then A else B) := fun hne hB => by
    rw [decide_eq_false (fun e => hne (by injection e))]
    exact iteF hB
  have tyes : ∀ {w : Str} {A B : Prop}, A → (if decide (V.str w = V.str w) = true then A else B) := fun hA => by
    rw [decide_eq_true rfl]
    exact iteT hA
  have cB : PySem.Str.ofString "[" = S [91] := by decide +kernel
  have cBr : PySem.Str.ofString "]." = S [93, 46] := by decide +kernel
  have cP : PySem.Str.ofString "(" = S [40] := by decide +kernel
  have cQ : PySem.Str.ofString ")" = S [41] := by decide +kernel
  have cS : PySem.Str.ofString " " = S [32] := by decide +kernel
  have cC : PySem.Str.ofString ", " = S [44, 32] := by decide +kernel
  have nB : (PySem.Str.ofString "[").length = 1 := by decide
  have nBr : (PySem.Str.ofString "].").length = 2 := by decide
  have nP : (PySem.Str.ofString "(").length = 1 := by decide
  have nQ : (PySem.Str.ofString ")").length = 1 := by decide
  have nS : (PySem.Str.ofString " ").length = 1 := by decide
  cases ht with
  | int _ i h1 h2 =>
    obtain ⟨a, xs, rfl, hS, hA⟩ := L10.Dd.tup_inv hd
    rcases hA with _ | ⟨g1, hA⟩; cases g1; rcases hA with _ | ⟨g2, hA⟩; cases g2; cases hA
    refine ⟨.ref a, rfl, a, _, 0, .str "int", rfl, rfl, hS, at0, .str "int", rfl, rfl, _, rfl, tyes ⟨.ref a, rfl, a, _, 1, .int i, rfl, rfl, hS, atI_nat (j := 1) rfl, i, rfl, ?_, ?_⟩⟩
    · by_cases e0 : i.natAbs = 0
      · rw [e0]; decide
      · exact (Nat.log2_lt e0).mpr (Nat.lt_of_le_of_lt (show i.natAbs ≤ 10 ^ 18 by omega) (Nat.lt_of_lt_of_le (show 10 ^ 18 < 2 ^ 60 by decide) (Nat.pow_le_pow_right (by decide) (by decide))))
    · rw [show PySem.Str.ofString (toString i) = S (num i) from str_num i]
      exact q H fun _ _ e => e
  | key _ =>
    obtain ⟨a, xs, rfl, hS, hA⟩ := L10.Dd.tup_inv hd
    rcases hA with _ | ⟨g1, hA⟩; cases g1; cases hA
    refine ⟨.ref a, rfl, a, _, 0, .str "key", rfl, rfl, hS, at0, .str "key", rfl, rfl, _, rfl, tst (by decide) ⟨.str "key", rfl, rfl, _, rfl, tst (by decide) ⟨.str "key", rfl, rfl, _, rfl, tyes ?_⟩⟩⟩
    have := q H fun _ _ e => e
    rwa [S_wd] at this
  | var _ z hz' =>
    obtain ⟨a, xs, rfl, hS, hA⟩ := L10.Dd.tup_inv hd
    rcases hA with _ | ⟨g1, hA⟩; cases g1; rcases hA with _ | ⟨g2, hA⟩; cases g2; cases hA
    refine ⟨.ref a, rfl, a, _, 0, .str "var", rfl, rfl, hS, at0, .str "var", rfl, rfl, _, rfl, tst (by decide) ⟨.str "var", rfl, rfl, _, rfl, tyes ⟨.ref a, rfl, a, _, 1, .str z, rfl, rfl, hS, atI_nat (j := 1) rfl, ?_⟩⟩⟩
    have := q H fun _ _ e => e
    rwa [S_wd] at this
  | cell _ t c x l1 h1 h2 hx =>
    obtain ⟨a, xs, rfl, hS, hA⟩ := L10.Dd.tup_inv hd
    rcases hA with _ | ⟨g1, hA⟩; cases g1; rcases hA with _ | ⟨g2, hA⟩; cases g2; rcases hA with _ | ⟨g3, hA⟩; rcases hA with _ | ⟨g4, hA⟩; cases g4; cases hA
    rename_i ux
    have b1 := nm_len h1
    have b2 := nm_len h2
    have b3 := hx.len
    have bz : sz x ≤ 100000 := by
      rw [sz, szs, szs, szs] at hz
      omega
    refine ⟨.ref a, rfl, a, _, 0, .str "cell", rfl, rfl, hS, at0, .str "cell", rfl, rfl, _, rfl, tst (by decide) ⟨.str "cell", rfl, rfl, _, rfl, tst (by decide) ⟨.str "cell", rfl, rfl, _, rfl, tst (by decide) ⟨.str "cell", rfl, rfl, _, rfl, tyes ?_⟩⟩⟩⟩
    refine ⟨.ref a, rfl, a, _, 1, .str t, rfl, rfl, hS, atI_nat (j := 1) rfl, t, Str.ofString "[", rfl, rfl, ?_, .ref a, rfl, a, _, 2, ux, rfl, rfl, hS, atI_nat (j := 2) rfl, ux, x, l1, rfl, g3, hx, bz, fun H1 s1 => ⟨_, S l1, rfl, rfl, ?_, _, Str.ofString "].", rfl, rfl, ?_, .ref a, rfl, a, _, 3, .str c, rfl, rfl, (KeepT.of s1).seqt hS, atI_nat (j := 3) rfl, _, c, rfl, rfl, ?_, ?_⟩⟩
    iterate 4 (· simp only [len_cat, S_len, nB, nBr, slen t, slen c, sizeLine_eq]; omega)
    have e : t ++ PySem.Str.ofString "[" ++ S l1 ++ PySem.Str.ofString "]." ++ c = S (wd t ++ (91 :: (l1 ++ (93 :: 46 :: wd c)))) := by
      conv => lhs; rw [← S_wd t, ← S_wd c]
      rw [cB, cBr, S_cat, S_cat, S_cat, S_cat]
      simp only [List.append_assoc, List.cons_append, List.nil_append]
    rw [e]
    exact q H1 s1
  | op _ o x y l1 l2 ho hx hy =>
    obtain ⟨a, xs, rfl, hS, hA⟩ := L10.Dd.tup_inv hd
    rcases hA with _ | ⟨g1, hA⟩; cases g1; rcases hA with _ | ⟨g2, hA⟩; rcases hA with _ | ⟨g3, hA⟩; cases hA
    rename_i ux uy
    have hno : o ≠ "int" ∧ o ≠ "var" ∧ o ≠ "key" ∧ o ≠ "cell" ∧ o ∉ (["if", "at"] : List Str) ∧ o ∉ (["count", "sum", "most", "first"] : List Str) ∧ o.length ≤ 1 := by
      simp only [ops5, List.mem_cons, List.not_mem_nil, or_false] at ho
      rcases ho with rfl | rfl | rfl | rfl | rfl <;> exact ⟨by decide, by decide, by decide, by decide, by decide, by decide, by decide⟩
    obtain ⟨n1, n2, n3, n4, n5, n6, n7⟩ := hno
    have b3 := hx.len
    have b4 := hy.len
    have bz : sz x ≤ 100000 ∧ sz y ≤ 100000 ∧ 30 * sz x + 30 * sz y ≤ 3000000 := by
      rw [sz, szs, szs, szs, szs] at hz
      omega
    refine ⟨.ref a, rfl, a, _, 0, .str o, rfl, rfl, hS, at0, .str o, rfl, rfl, _, rfl, tst n1 ⟨.str o, rfl, rfl, _, rfl, tst n2 ⟨.str o, rfl, rfl, _, rfl, tst n3 ⟨.str o, rfl, rfl, _, rfl, tst n4 ?_⟩⟩⟩⟩
    refine ⟨.str o, rfl, small_le (show 2 ≤ 1000 by decide), fun p1 np1 => ⟨p1, (["if", "at"] : List Str).map V.str, rfl, .inr (.inl (.inl upd_same)), rfl, flat_strsW _, _, rfl, ?_⟩⟩
    show if inV (.str o) ((["if", "at"] : List Str).map V.str) = true then _ else _
    rw [in_strs, decide_eq_false n5]
    refine iteF ⟨.str o, rfl, small_le (show 4 ≤ 1000 by decide), fun p2 np2 => ⟨p2, (["count", "sum", "most", "first"] : List Str).map V.str, rfl, .inr (.inl (.inl upd_same)), rfl, flat_strsW _, _, rfl, ?_⟩⟩
    show if inV (.str o) ((["count", "sum", "most", "first"] : List Str).map V.str) = true then _ else _
    rw [in_strs, decide_eq_false n6]
    have sA := same_upd (o := .tup [V.str "if", V.str "at"]) np1
    have sB := same_upd (o := .tup [V.str "count", V.str "sum", V.str "most", V.str "first"]) np2
    have s0 := sA.trans sB
    have hS0 := (KeepT.of s0).seqt hS
    have g20 := g2.keep (KeepO.of s0)
    have g30 := g3.keep (KeepO.of s0)
    refine iteF ⟨.ref a, rfl, a, _, 1, ux, rfl, rfl, hS0, atI_nat (j := 1) rfl, ux, x, l1, rfl, g20, hx, bz.1, fun H1 s1 => ⟨Str.ofString "(", S l1, rfl, rfl, ?_, _, Str.ofString " ", rfl, rfl, ?_, .str o, rfl, _, o, rfl, rfl, ?_, _, Str.ofString " ", rfl, rfl, ?_,
      .ref a, rfl, a, _, 2, uy, rfl, rfl, (KeepT.of s1).seqt hS0, atI_nat (j := 2) rfl, uy, y, l2, rfl, g30.keep (KeepO.of s1), hy, bz.2.1, fun H2 s2 => ⟨_, S l2, rfl, rfl, ?_, _, Str.ofString ")", rfl, rfl, ?_, ?_⟩⟩⟩
    iterate 6 (· simp only [len_cat, S_len, nP, nQ, nS, sizeLine_eq]; omega)
    have e : PySem.Str.ofString "(" ++ S l1 ++ PySem.Str.ofString " " ++ o ++ PySem.Str.ofString " " ++ S l2 ++ PySem.Str.ofString ")" = S (40 :: (l1 ++ (32 :: (wd o ++ (32 :: (l2 ++ [41])))))) := by
      conv => lhs; rw [← S_wd o]
      rw [cP, cQ, cS, S_cat, S_cat, S_cat, S_cat, S_cat, S_cat]
      simp only [List.append_assoc, List.cons_append, List.nil_append]
    rw [e]
    exact q H2 ((s0.trans s1).trans s2)
  | call _ o ys ls ho hl hys =>
    obtain ⟨a, xs, rfl, hS, hA⟩ := L10.Dd.tup_inv hd
    rcases hA with _ | ⟨g1, hA⟩; cases g1
    rename_i us
    have hno : o ≠ "int" ∧ o ≠ "var" ∧ o ≠ "key" ∧ o ≠ "cell" ∧ o ∈ (["if", "at"] : List Str) ∧ o.length ≤ 2 ∧ ys.length ≤ 3 := by
      simp only [callk, List.mem_cons, List.not_mem_nil, or_false, Prod.mk.injEq] at ho
      rcases ho with ⟨rfl, e⟩ | ⟨rfl, e⟩ <;> exact ⟨by decide, by decide, by decide, by decide, by decide, by decide, by omega⟩
    obtain ⟨n1, n2, n3, n4, n5, n7, n8⟩ := hno
    have lu := hA.len
    have bz : ∀ y, y ∈ ys → sz y ≤ 100000 := fun y hy => by
      have := sz_kid hy
      rw [sz, szs] at hz
      omega
    have hts : Pts ys ls := ⟨hl, fun p hp => .ex n _ _ (hys p hp)⟩
    have bl := commas_len ls
    have bl2 := zip_len hl fun p hp => (hys p hp).len
    have bl3 : (ls.map List.length).sum ≤ 3000000 := by
      rw [sz, szs] at hz
      omega
    refine ⟨.ref a, rfl, a, _, 0, .str o, rfl, rfl, hS, at0, .str o, rfl, rfl, _, rfl, tst n1 ⟨.str o, rfl, rfl, _, rfl, tst n2 ⟨.str o, rfl, rfl, _, rfl, tst n3 ⟨.str o, rfl, rfl, _, rfl, tst n4 ?_⟩⟩⟩⟩
    refine ⟨.str o, rfl, small_le (show 2 ≤ 1000 by decide), fun p1 np1 => ⟨p1, (["if", "at"] : List Str).map V.str, rfl, .inr (.inl (.inl upd_same)), rfl, flat_strsW _, _, rfl, ?_⟩⟩
    show if inV (.str o) ((["if", "at"] : List Str).map V.str) = true then _ else _
    rw [in_strs, decide_eq_true n5]
    have s0 := same_upd (o := .tup [V.str "if", V.str "at"]) np1
    have hS0 := (KeepT.of s0).seqt hS
    refine iteT ⟨.str o, rfl, o, Str.ofString "(", rfl, rfl, ?_, ⟨_, rfl⟩, .ref a, rfl, 1, rfl, a, _, rfl, hS0, no_1, fun c nc => ?_⟩
    · simp only [nP, sizeLine_eq]; omega
    rw [cut_1]
    have sc := same_upd (o := .tup us) nc
    refine ⟨c, rfl, ⟨us, .inl (.inl upd_same)⟩, fun D nD => ?_⟩
    have hA1 := hA.keep (KeepO.of (s0.trans sc))
    have hc1 : upd (upd H p1 (.tup [V.str "if", V.str "at"])) c (.tup us) c = some (.tup us) := upd_same
    have s01 := s0.trans sc
    revert hA1 hc1 s01 nD
    generalize upd (upd H p1 (.tup [V.str "if", V.str "at"])) c (.tup us) = H1
    intro nD hA1 hc1 s01
    refine walk_bodyT (xs := us) (fun i H' => H' D = some (.lst (SA (ls.take i))) ∧ ∀ b o, b ≠ D → H1 b = some o → H' b = some o) ?_ ?_ ?_ ?_
    · exact ⟨upd_same, fun b o nb e => by rw [upd_ne nb]; exact e⟩
    · rintro i H' _ ⟨_, kp⟩
      exact .inl (.inl (kp _ _ (ne_of_none hc1 nD) hc1))
    · rintro i y H' hy ⟨hD, kp⟩
      have s1' : Same H1 H' := fun b o e => kp b o (ne_of_none e nD) e
      obtain ⟨di, hdi, hyd⟩ := dd_at (hA1.keep (KeepO.of s1')) hy
      have hi : i < us.length := (List.getElem?_eq_some_iff.mp hy).1
      have hil : i < ls.length := by omega
      have hli : ls[i]? = some ls[i] := List.getElem?_eq_getElem hil
      have htx : Tx n di ls[i] := hys (di, ls[i]) (List.mem_of_getElem? (i := i) (by rw [List.getElem?_zip_eq_some]; exact ⟨hdi, hli⟩))
      have hle : (SA (ls.take i)).length < sizeLine := by
        rw [List.length_map, List.length_take, sizeLine_eq]
        omega
      refine ⟨rfl, yes_then ⟨y, rfl, y, di, ls[i], rfl, hyd, htx, bz _ (List.mem_of_getElem? hdi), fun H2 s2 => ⟨_, s2 _ _ hD, hle, ?_, fun b o nb e => ?_⟩⟩⟩
      · rw [upd_same, take_at hli]
        unfold SA
        rw [List.map_append, List.map_singleton]
      · rw [upd_ne nb]
        exact s2 _ _ (kp b o nb e)
    · rintro H' ⟨hD, kp⟩
      rw [lu, ← hl, List.take_length] at hD
      have e1 : SA ls = (ls.map S).map V.str := by
        unfold SA
        rw [List.map_map]
        rfl
      refine ⟨Str.ofString ", ", D, ls.map S, rfl, rfl, .inl (.inl (.inl (by rw [← e1]; exact hD))), ?_, ?_⟩
      · have : ((ls.map S).map (·.length)).sum = (ls.map List.length).sum := by
          rw [List.map_map]
          congr 1
        rw [this, List.length_map]
        show _ + ls.length * 2 ≤ _
        omega
      rw [cC, SX.join_S]
      refine ⟨_, S (commas ls), rfl, rfl, ?_, _, Str.ofString ")", rfl, rfl, ?_, ?_⟩
      · simp only [len_cat, S_len, nP, nQ, sizeLine_eq]; omega
      · simp only [len_cat, S_len, nP, nQ, sizeLine_eq]; omega
      have e : o ++ PySem.Str.ofString "(" ++ S (commas ls) ++ PySem.Str.ofString ")" = S (wd o ++ (40 :: (commas ls ++ [41]))) := by
        conv => lhs; rw [← S_wd o]
        rw [cP, cQ, S_cat, S_cat, S_cat]
        simp only [List.append_assoc, List.cons_append, List.nil_append]
      rw [e]
      exact q H' fun b o e => kp b o (ne_of_none (s01 _ _ e) nD) (s01 _ _ e)
  | agg _ o t ys ls h0 ho ht' hl hys =>
    obtain ⟨a, xs, rfl, hS, hA⟩ := L10.Dd.tup_inv hd
    rcases hA with _ | ⟨g1, hA⟩; cases g1; rcases hA with _ | ⟨g2, hA⟩; cases g2; rcases hA with _ | ⟨g3, hA⟩; rcases hA with _ | ⟨g4, hA⟩
    rename_i v3 v4 us
    have hno : o ≠ "int" ∧ o ≠ "var" ∧ o ≠ "key" ∧ o ≠ "cell" ∧ o ∉ (["if", "at"] : List Str) ∧ o ∈ (["count", "sum", "most", "first"] : List Str) ∧ o.length ≤ 5 ∧ 1 ≤ ys.length ∧ ys.length ≤ 3 := by
      simp only [aggn, List.mem_cons, List.not_mem_nil, or_false, Prod.mk.injEq] at ho
      rcases ho with ⟨rfl, e⟩ | ⟨rfl, e⟩ | ⟨rfl, e⟩ | ⟨rfl, e⟩ <;> exact ⟨by decide, by decide, by decide, by decide, by decide, by decide, by decide, by omega, by omega⟩
    obtain ⟨n1, n2, n3, n4, n5, n6, n7, n9, n8⟩ := hno
    have lu := hA.len
    have bt := nm_len ht'
    have bz : ∀ y, y ∈ ys → sz y ≤ 100000 := fun y hy => by
      have := sz_kid hy
      rw [sz, szs, szs, szs, szs] at hz
      omega
    have bl := commas_len ls
    have bl2 := zip_len hl fun p hp => (hys p hp).len
    have bl3 : (ls.map List.length).sum ≤ 3000000 := by
      rw [sz, szs, szs, szs, szs] at hz
      omega
    refine ⟨.ref a, rfl, a, _, 0, .str o, rfl, rfl, hS, at0, .str o, rfl, rfl, _, rfl, tst n1 ⟨.str o, rfl, rfl, _, rfl, tst n2 ⟨.str o, rfl, rfl, _, rfl, tst n3 ⟨.str o, rfl, rfl, _, rfl, tst n4 ?_⟩⟩⟩⟩
    refine ⟨.str o, rfl, small_le (show 2 ≤ 1000 by decide), fun p1 np1 => ⟨p1, (["if", "at"] : List Str).map V.str, rfl, .inr (.inl (.inl upd_same)), rfl, flat_strsW _, _, rfl, ?_⟩⟩
    show if inV (.str o) ((["if", "at"] : List Str).map V.str) = true then _ else _
    rw [in_strs, decide_eq_false n5]
    refine iteF ⟨.str o, rfl, small_le (show 4 ≤ 1000 by decide), fun p2 np2 => ⟨p2, (["count", "sum", "most", "first"] : List Str).map V.str, rfl, .inr (.inl (.inl upd_same)), rfl, flat_strsW _, _, rfl, ?_⟩⟩
    show if inV (.str o) ((["count", "sum", "most", "first"] : List Str).map V.str) = true then _ else _
    rw [in_strs, decide_eq_true n6]
    have sA := same_upd (o := .tup [V.str "if", V.str "at"]) np1
    have sB := same_upd (o := .tup [V.str "count", V.str "sum", V.str "most", V.str "first"]) np2
    have s0 := sA.trans sB
    revert s0
    generalize upd (upd H p1 (.tup [V.str "if", V.str "at"])) p2 (.tup [V.str "count", V.str "sum", V.str "most", V.str "first"]) = H0
    intro s0
    have hS0 := (KeepT.of s0).seqt hS
    refine iteT ⟨.str o, rfl, o, Str.ofString "(", rfl, rfl, ?_, ⟨_, rfl⟩, .ref a, rfl, a, _, 1, .str t, rfl, rfl, hS0, atI_nat (j := 1) rfl, small_le (show 1 ≤ 1000 by decide), fun L nL => ?_⟩
    · simp only [nP, sizeLine_eq]; omega
    have sL := same_upd (o := .lst [.str t]) nL
    refine ⟨.ref a, rfl, 4, rfl, a, _, rfl, (KeepT.of sL).seqt hS0, no_4, fun c nc => ?_⟩
    rw [cut_4]
    have sc := same_upd (o := .tup us) nc
    refine ⟨c, rfl, ⟨us, .inl (.inl upd_same)⟩, fun D nD => ?_⟩
    have hA1 := hA.keep (KeepO.of ((s0.trans sL).trans sc))
    have hc1 : upd (upd H0 L (.lst [.str t])) c (.tup us) c = some (.tup us) := upd_same
    have hL1 : upd (upd H0 L (.lst [.str t])) c (.tup us) L = some (.lst [.str t]) := sc _ _ upd_same
    have s01 := (s0.trans sL).trans sc
    revert hA1 hc1 hL1 s01 nD
    generalize upd (upd H0 L (.lst [.str t])) c (.tup us) = H1
    intro nD hA1 hc1 hL1 s01
    refine walk_bodyT (xs := us) (fun i H' => H' D = some (.lst (SA (ls.take i))) ∧ ∀ b o, b ≠ D → H1 b = some o → H' b = some o) ?_ ?_ ?_ ?_
    · exact ⟨upd_same, fun b o nb e => by rw [upd_ne nb]; exact e⟩
    · rintro i H' _ ⟨_, kp⟩
      exact .inl (.inl (kp _ _ (ne_of_none hc1 nD) hc1))
    · rintro i y H' hy ⟨hD, kp⟩
      have s1' : Same H1 H' := fun b o e => kp b o (ne_of_none e nD) e
      obtain ⟨di, hdi, hyd⟩ := dd_at (hA1.keep (KeepO.of s1')) hy
      have hi : i < us.length := (List.getElem?_eq_some_iff.mp hy).1
      have hil : i < ls.length := by omega
      have hli : ls[i]? = some ls[i] := List.getElem?_eq_getElem hil
      have htx : Tx n di ls[i] := hys (di, ls[i]) (List.mem_of_getElem? (i := i) (by rw [List.getElem?_zip_eq_some]; exact ⟨hdi, hli⟩))
      have hle : (SA (ls.take i)).length < sizeLine := by
        rw [List.length_map, List.length_take, sizeLine_eq]
        omega
      refine ⟨rfl, yes_then ⟨y, rfl, y, di, ls[i], rfl, hyd, htx, bz _ (List.mem_of_getElem? hdi), fun H2 s2 => ⟨_, s2 _ _ hD, hle, ?_, fun b o nb e => ?_⟩⟩⟩
      · rw [upd_same, take_at hli]
        unfold SA
        rw [List.map_append, List.map_singleton]
      · rw [upd_ne nb]
        exact s2 _ _ (kp b o nb e)
    · rintro H' ⟨hD, kp⟩
      rw [lu, ← hl, List.take_length] at hD
      have hL' := kp _ _ (ne_of_none hL1 nD) hL1
      refine ⟨L, D, _, _, rfl, rfl, hL', hD, ?_, fun M nM => ?_⟩
      · rw [List.length_map]
        exact small_le (show 1 + ls.length ≤ 1000 by omega)
      have sM := same_upd (o := .lst ([.str t] ++ SA ls)) nM
      have e1 : [V.str t] ++ SA ls = ((wd t :: ls).map S).map V.str := by
        unfold SA
        rw [List.map_map, List.map_cons]
        show V.str t :: _ = V.str (S (wd t)) :: _
        rw [S_wd]
        rfl
      refine ⟨Str.ofString ", ", M, (wd t :: ls).map S, rfl, rfl, .inl (.inl (.inl (by rw [← e1]; exact upd_same))), ?_, ?_⟩
      · have : (((wd t :: ls).map S).map (·.length)).sum = ((wd t :: ls).map List.length).sum := by
          rw [List.map_map]
          congr 1
        rw [this, List.length_map, List.map_cons, List.sum_cons, List.length_cons]
        show _ + (ls.length + 1) * 2 ≤ _
        omega
      rw [cC, SX.join_S]
      have e2 : TL.joinL [44, 32] (wd t :: ls) = wd t ++ (44 :: 32 :: commas ls) := by
        cases ls with
        | nil => rw [List.length_nil] at hl; omega
        | cons m ms' => rfl
      rw [e2]
      refine ⟨_, S (wd t ++ (44 :: 32 :: commas ls)), rfl, rfl, ?_, _, Str.ofString ")", rfl, rfl, ?_, ?_⟩
      · simp only [len_cat, S_len, nP, nQ, sizeLine_eq, List.length_append, List.length_cons]; omega
      · simp only [len_cat, S_len, nP, nQ, sizeLine_eq, List.length_append, List.length_cons]; omega
      have e : o ++ PySem.Str.ofString "(" ++ S (wd t ++ (44 :: 32 :: commas ls)) ++ PySem.Str.ofString ")" = S (wd o ++ (40 :: (wd t ++ (44 :: 32 :: (commas ls ++ [41]))))) := by
        conv => lhs; rw [← S_wd o]
        rw [cP, cQ, S_cat, S_cat, S_cat]
        simp only [List.append_assoc, List.cons_append, List.nil_append]
      rw [e]
      exact q _ fun b o e => sM _ _ (kp b o (ne_of_none (s01 _ _ e) nD) (s01 _ _ e))
theorem ok_ltext {f : Addr} {fd : FuncData} {k : Nat} (F : Fun K "_law_text" "_law_text" s_law_text f fd) (g : mg "_law_text" = some (.ref f)) (Kf : PySem.W.keepIn K (.ref f) = true) (b : Binds K fd ["_law_thing"] []) (mstr : mg "str" = none) : ∀ n, DF P w K mg base "_law_text" ["_law_thing"] (sp_ltext K n) (k + 1 + n)
  | 0 => ⟨f, fd, ok_ltext_zero F, g, Kf, b⟩
  | n + 1 => ⟨f, fd, ok_ltext_step F (ok_ltext F g Kf b mstr n) mstr, g, Kf, b⟩
end
end L10

/-! the law's own rows; its chains -/
namespace L10
open PySem PySem.Spec PyProof.Rows L2 GR AD RZ WX ZE TX RVT
open SX (S S_cat S_len S_inj)
/-- a part and its text, its depth told -/
inductive Pd (n : Nat) : PyData → List Nat → Prop
  | str (z : Str) : Pd n (.str z) (wd z)
  | ex (d : PyData) (l : List Nat) : Tx n d l → Pd n d l
def Pq (n : Nat) (ps : List PyData) (ls : List (List Nat)) : Prop := ls.length = ps.length ∧ ∀ p, p ∈ ps.zip ls → Pd n p.1 p.2
theorem Pq.nil {n : Nat} : Pq n [] [] := ⟨rfl, fun p hp => nomatch hp⟩
theorem Pq.cons {n : Nat} {x : PyData} {l : List Nat} {ps : List PyData} {ls : List (List Nat)} (h : Pd n x l) (t : Pq n ps ls) : Pq n (x :: ps) (l :: ls) := by
  refine ⟨by rw [List.length_cons, List.length_cons, t.1], fun p hp => ?_⟩
  rw [List.zip_cons_cons] at hp
  rcases List.mem_cons.mp hp with rfl | hp
  · exact h
  · exact t.2 p hp
theorem Pq.at {n : Nat} {ps : List PyData} {ls : List (List Nat)} (h : Pq n ps ls) {i : Nat} {x : PyData} (hx : ps[i]? = some x) : ∃ l, ls[i]? = some l ∧ Pd n x l := by
  have hi : i < ps.length := (List.getElem?_eq_some_iff.mp hx).1
  have hl : i < ls.length := by rw [h.1]; exact hi
  refine ⟨ls[i], List.getElem?_eq_getElem hl, h.2 (x, ls[i]) ?_⟩
  refine List.mem_of_getElem? (i := i) ?_
  rw [List.getElem?_zip_eq_some]
  exact ⟨hx, List.getElem?_eq_getElem hl⟩
theorem Sx.partsN {n : Nat} {d : PyData} {l : List Nat} (h : Sx n d l) : ∃ o ps ls, d = .tuple (.str o :: ps) ∧ Pq n ps ls ∧ ps.length ≤ 4 ∧ Fm o ls l := by
  cases h with
  | let_ z x l1 hz hx => exact ⟨_, _, _, rfl, .cons (.str z) (.cons (.ex x l1 hx) .nil), (by show 2 ≤ 4; decide), .let_ _ _⟩
  | one o x l1 ho hx => exact ⟨_, _, _, rfl, .cons (.ex x l1 hx) .nil, (by show 1 ≤ 4; decide), .one o _ ho⟩
  | put t c x y l1 l2 ht hc hx hy => exact ⟨_, _, _, rfl, .cons (.str t) (.cons (.ex x l1 hx) (.cons (.str c) (.cons (.ex y l2 hy) .nil))), (by show 4 ≤ 4; decide), .put _ _ _ _⟩
  | each t c x y l1 l2 ht hc hx hy => exact ⟨_, _, _, rfl, .cons (.str t) (.cons (.ex x l1 hx) (.cons (.str c) (.cons (.ex y l2 hy) .nil))), (by show 4 ≤ 4; decide), .each _ _ _ _⟩
section
variable {P : Program} {w : World} {K : PySem.W.Frag} {mg : Str → Option Value} {base : Heap}
abbrev s_law_row : Stmt := topS 82
abbrev N_lr : List Str := ["_law_statement_here", "_law_some", "_law_one"]
theorem sc_law_row : FnScope N_lr ["_law_statement_here"] (defScope s_law_row) := ⟨rfl, rfl, rfl, by decide +kernel, rfl, by decide +kernel, by decide +kernel⟩
def sp_lrow (K : PySem.W.Frag) (n : Nat) : Sp := fun vs H Q _ => ∃ (v : V) (d : PyData) (l : List Nat), vs = [v] ∧ Dd K F0 H v d ∧ Sx n d l ∧ l.length ≤ 1000000 ∧ PartsLe d 100000 ∧ ∀ H', Same H H' → Q (.str (S l)) H'
theorem ok_law_row {f : Addr} {fd : FuncData} {k n : Nat} (F : Fun K "_law_row" "_law_row" s_law_row f fd) (X : DF P w K mg base "_law_text" ["_law_thing"] (sp_ltext K n) k) (misi : mg "isinstance" = none) (mstr : mg "str" = none) : FnOk P w K mg base CX0 (k + 1) f fd ["_law_statement_here"] (sp_lrow K n) := by
  have nd := sc_law_row.nd
  refine F.ok sc_law_row (fun vs H Q E h => ?_) (fun cdv A outer s H vs Q E hr h => ?_)
  · obtain ⟨v, d, l, rfl, _⟩ := h
    rfl
  obtain ⟨v, d, l, rfl, hd, hs, hl, hsz, q⟩ := h
  obtain ⟨fx, dx, G, g, Kf, b⟩ := X
  refine ⟨_, (Evl.pss_cut (ps_setLc (i := 1) (own := [("_law_one", 2)]) (tt := tYes) (te := L2.tIf (tB (tCB (rIsi K) (tCons (tVar 2) (tCons (tC (.ty "str")) tNil)))) (tVar 2) (tCall (sp_ltext K n) [] E0 (tCons (tVar 2) tNil))) rfl nd rfl rfl (sw_true rfl rfl rfl (by decide +kernel)) (pi_tup (pv 0)) (blkOk_by (N := N_lr) (sc := defScope s_law_row) (by decide +kernel)) (fun _ _ _ _ _ => (pg_name (i := 2) nd rfl (Or.inl rfl))) (fun _ _ _ _ _ => pts_nil) (fun _ _ _ _ _ => (pe_ifExp (pt_val (pe_callB call_isi (by rfl) misi boot_isinstance (pa_cons (pv 2) (pa_cons (pe_bltn (v := .ty "str") (by rfl) mstr boot_str rfl) pa_nil)))) (pv 2) (pe_call G hr (by rfl) g Kf b .nil pass0 (pa_cons (pv 2) pa_nil)))))
      (pss_cons (ps_if (pt_cmpR op_eq (pe_ix ix_list (pv 1) pe_int (fun _ _ => rfl)) pe_str (nomark _))
      (pss_one (ps_ret (pe_op op_add_str (pe_op op_add_str (pe_op op_add_str pe_str (pe_ix ix_list (pv 1) pe_int (fun _ _ => rfl))) pe_str) (pe_ix ix_list (pv 1) pe_int (fun _ _ => rfl)))))
      pss_nil)
      (pss_cons (ps_if (pt_cmpR op_eq (pe_ix ix_list (pv 1) pe_int (fun _ _ => rfl)) pe_str (nomark _))
      (pss_one (ps_ret (pe_op op_add_str (pe_op op_add_str (pe_op op_add_str (pe_op op_add_str (pe_op op_add_str (pe_op op_add_str (pe_op op_add_str pe_str (pe_ix ix_list (pv 1) pe_int (fun _ _ => rfl))) pe_str) (pe_ix ix_list (pv 1) pe_int (fun _ _ => rfl))) pe_str) (pe_ix ix_list (pv 1) pe_int (fun _ _ => rfl))) pe_str) (pe_ix ix_list (pv 1) pe_int (fun _ _ => rfl)))))
      pss_nil)
      (pss_cons (ps_if (pt_cmpR op_eq (pe_ix ix_list (pv 1) pe_int (fun _ _ => rfl)) pe_str (nomark _))
      (pss_one (ps_ret (pe_op op_add_str (pe_op op_add_str (pe_op op_add_str (pe_op op_add_str (pe_op op_add_str (pe_op op_add_str (pe_op op_add_str pe_str (pe_ix ix_list (pv 1) pe_int (fun _ _ => rfl))) pe_str) (pe_ix ix_list (pv 1) pe_int (fun _ _ => rfl))) pe_str) (pe_ix ix_list (pv 1) pe_int (fun _ _ => rfl))) pe_str) (pe_ix ix_list (pv 1) pe_int (fun _ _ => rfl)))))
      pss_nil)
      (pss_one (ps_ret (pe_op op_add_str (pe_op op_add_str (pe_ix ix_list (pv 1) pe_int (fun _ _ => rfl)) pe_str) (pe_ix ix_list (pv 1) pe_int (fun _ _ => rfl))))))))), ?_⟩
  obtain ⟨o, ps, ls, rfl, hp0, hp4, hf⟩ := hs.partsN
  obtain ⟨a, us, rfl, hS, hA⟩ := L10.Dd.tup_inv hd
  have hp : Pq n (.str o :: ps) (wd o :: ls) := .cons (.str o) hp0
  have lu := hA.len
  rw [List.length_cons] at lu
  refine ⟨fun σ' H' => ∃ L, σ' = [some (.ref a), some (.ref L), none] ∧ H' L = some (.lst (.str o :: SA ls)) ∧ Same H H', ?_, ?_⟩
  · refine ⟨.ref a, rfl, a, rfl, ⟨us, hS⟩, fun D nD => ?_⟩
    refine walk_bodyT (xs := us) (fun i H' => H' D = some (.lst (SA ((wd o :: ls).take i))) ∧ ∀ b o, b ≠ D → H b = some o → H' b = some o) ?_ ?_ ?_ ?_
    · exact ⟨upd_same, fun b o nb e => by rw [upd_ne nb]; exact e⟩
    · rintro i H' _ ⟨_, kp⟩
      exact (KeepT.of (fun b o e => kp b o (ne_of_none e nD) e)).seqt hS
    · rintro i y H' hy ⟨hD, kp⟩
      have s1' : Same H H' := fun b o e => kp b o (ne_of_none e nD) e
      obtain ⟨di, hdi, hyd⟩ := dd_at (hA.keep (KeepO.of s1')) hy
      obtain ⟨li, hli, hpc⟩ := hp.at hdi
      have hi : i < us.length := (List.getElem?_eq_some_iff.mp hy).1
      have hle : (SA ((wd o :: ls).take i)).length < sizeLine := by
        rw [List.length_map, List.length_take, sizeLine_eq]
        omega
      refine ⟨rfl, yes_then ⟨y, rfl, y, .ty "str", _, _, _, rfl, .ty "str", hyd.ty, kit_s K di, _, rfl, ?_⟩⟩
      cases hpc with
      | str z =>
        cases hyd
        refine iteT ⟨.str z, rfl, _, hD, hle, ?_, fun b o nb e => ?_⟩
        · rw [upd_same, take_at hli]
          unfold SA
          rw [List.map_append, List.map_singleton, S_wd]
        · rw [upd_ne nb]
          exact kp b o nb e
      | ex _ _ htx =>
        obtain ⟨es, rfl⟩ := tx_tup htx
        refine iteF ⟨y, rfl, y, _, li, rfl, hyd, htx, hsz _ rfl _ (List.mem_of_getElem? hdi), fun H2 s2 => ⟨_, s2 _ _ hD, hle, ?_, fun b o nb e => ?_⟩⟩
        · rw [upd_same, take_at hli]
          unfold SA
          rw [List.map_append, List.map_singleton]
        · rw [upd_ne nb]
          exact s2 _ _ (kp b o nb e)
    · rintro H' ⟨hD, kp⟩
      rw [lu, ← hp0.1, ← List.length_cons (a := wd o), List.take_length] at hD
      refine ⟨D, rfl, ?_, fun b o e => kp b o (ne_of_none e nD) e⟩
      rw [hD]
      unfold SA
      rw [List.map_cons, S_wd]
  rintro σ' H' ⟨L, rfl, hL, s'⟩
  have hfl := hf.le
  have tst : ∀ {w x : Str} {A B : Prop}, w ≠ x → B → (if decide (V.str w = V.str x) = true then A else B) := fun hne hB => by
    rw [decide_eq_false (fun e => hne (by injection e))]
    exact iteF hB
  have tyes : ∀ {w : Str} {A B : Prop}, A → (if decide (V.str w = V.str w) = true then A else B) := fun hA => by
    rw [decide_eq_true rfl]
    exact iteT hA
  have cLet : PySem.Str.ofString "let " = S tLet := by decide +kernel
  have cEq : PySem.Str.ofString " = " = S tEq := by decide +kernel
  have cPut : PySem.Str.ofString "put " = S tPut := by decide +kernel
  have cEach : PySem.Str.ofString "each " = S tEach := by decide +kernel
  have cIf : PySem.Str.ofString " if " = S tIf := by decide +kernel
  have cP2 : PySem.Str.ofString " put " = S tP2 := by decide +kernel
  have cBr : PySem.Str.ofString "]." = S tBr := by decide +kernel
  have cB : PySem.Str.ofString "[" = S [91] := by decide +kernel
  have cS : PySem.Str.ofString " " = S [32] := by decide +kernel
  have nLet : (PySem.Str.ofString "let ").length = 4 := by decide
  have nEq : (PySem.Str.ofString " = ").length = 3 := by decide
  have nPut : (PySem.Str.ofString "put ").length = 4 := by decide
  have nEach : (PySem.Str.ofString "each ").length = 5 := by decide
  have nIf : (PySem.Str.ofString " if ").length = 4 := by decide
  have nP2 : (PySem.Str.ofString " put ").length = 5 := by decide
  have nBr : (PySem.Str.ofString "].").length = 2 := by decide
  have nB : (PySem.Str.ofString "[").length = 1 := by decide
  have nS : (PySem.Str.ofString " ").length = 1 := by decide
  cases hf with
  | let_ l0 l1 =>
    have b0 := hfl l0 (by simp)
    have b1 := hfl l1 (by simp)
    refine ⟨.ref L, rfl, L, _, 0, .str "let", rfl, rfl, .inl (.inl hL), at0, rfl, _, rfl, tyes ?_⟩
    refine ⟨.ref L, rfl, L, _, 1, .str (S l0), rfl, rfl, .inl (.inl hL), atI_nat (j := 1) rfl, Str.ofString "let ", S l0, rfl, rfl, ?_, _, Str.ofString " = ", rfl, rfl, ?_, .ref L, rfl, L, _, 2, .str (S l1), rfl, rfl, .inl (.inl hL), atI_nat (j := 2) rfl, _, S l1, rfl, rfl, ?_, ?_⟩
    iterate 3 (· simp only [len_cat, S_len, nLet, nEq, sizeLine_eq]; omega)
    rw [cLet, cEq, S_cat, S_cat, S_cat, List.append_assoc, List.append_assoc]
    exact q H' s'
  | one _ l0 ho =>
    have b0 := hfl l0 (by simp)
    have hne : o ≠ "let" ∧ o ≠ "put" ∧ o ≠ "each" ∧ o.length ≤ 4 := by
      rcases ho with rfl | rfl <;> exact ⟨by decide, by decide, by decide, by decide⟩
    obtain ⟨n1, n2, n3, n4⟩ := hne
    refine ⟨.ref L, rfl, L, _, 0, .str o, rfl, rfl, .inl (.inl hL), at0, rfl, _, rfl, tst n1 ⟨.ref L, rfl, L, _, 0, .str o, rfl, rfl, .inl (.inl hL), at0, rfl, _, rfl, tst n2 ⟨.ref L, rfl, L, _, 0, .str o, rfl, rfl, .inl (.inl hL), at0, rfl, _, rfl, tst n3 ?_⟩⟩⟩
    refine ⟨.ref L, rfl, L, _, 0, .str o, rfl, rfl, .inl (.inl hL), at0, o, Str.ofString " ", rfl, rfl, ?_, .ref L, rfl, L, _, 1, .str (S l0), rfl, rfl, .inl (.inl hL), atI_nat (j := 1) rfl, _, S l0, rfl, rfl, ?_, ?_⟩
    iterate 2 (· simp only [len_cat, S_len, nS, sizeLine_eq]; omega)
    have e : o ++ PySem.Str.ofString " " ++ S l0 = S (wd o ++ ([32] ++ l0)) := by
      rw [cS]
      conv => lhs; rw [← S_wd o]
      rw [S_cat, S_cat, List.append_assoc]
    rw [e]
    exact q H' s'
  | put l0 l1 l2 l3 =>
    have b0 := hfl l0 (by simp)
    have b1 := hfl l1 (by simp)
    have b2 := hfl l2 (by simp)
    have b3 := hfl l3 (by simp)
    refine ⟨.ref L, rfl, L, _, 0, .str "put", rfl, rfl, .inl (.inl hL), at0, rfl, _, rfl, tst (by decide) ⟨.ref L, rfl, L, _, 0, .str "put", rfl, rfl, .inl (.inl hL), at0, rfl, _, rfl, tyes ?_⟩⟩
    refine ⟨.ref L, rfl, L, _, 1, .str (S l0), rfl, rfl, .inl (.inl hL), atI_nat (j := 1) rfl, Str.ofString "put ", S l0, rfl, rfl, ?_, _, Str.ofString "[", rfl, rfl, ?_, .ref L, rfl, L, _, 2, .str (S l1), rfl, rfl, .inl (.inl hL), atI_nat (j := 2) rfl, _, S l1, rfl, rfl, ?_,
      _, Str.ofString "].", rfl, rfl, ?_, .ref L, rfl, L, _, 3, .str (S l2), rfl, rfl, .inl (.inl hL), atI_nat (j := 3) rfl, _, S l2, rfl, rfl, ?_, _, Str.ofString " = ", rfl, rfl, ?_, .ref L, rfl, L, _, 4, .str (S l3), rfl, rfl, .inl (.inl hL), atI_nat (j := 4) rfl, _, S l3, rfl, rfl, ?_, ?_⟩
    iterate 7 (· simp only [len_cat, S_len, nPut, nB, nBr, nEq, sizeLine_eq]; omega)
    rw [cPut, cB, cBr, cEq, S_cat, S_cat, S_cat, S_cat, S_cat, S_cat, S_cat, List.append_assoc, List.append_assoc, List.append_assoc, List.append_assoc, List.append_assoc, List.append_assoc]
    exact q H' s'
  | each l0 l1 l2 l3 =>
    have b0 := hfl l0 (by simp)
    have b1 := hfl l1 (by simp)
    have b2 := hfl l2 (by simp)
    have b3 := hfl l3 (by simp)
    refine ⟨.ref L, rfl, L, _, 0, .str "each", rfl, rfl, .inl (.inl hL), at0, rfl, _, rfl, tst (by decide) ⟨.ref L, rfl, L, _, 0, .str "each", rfl, rfl, .inl (.inl hL), at0, rfl, _, rfl, tst (by decide) ⟨.ref L, rfl, L, _, 0, .str "each", rfl, rfl, .inl (.inl hL), at0, rfl, _, rfl, tyes ?_⟩⟩⟩
    refine ⟨.ref L, rfl, L, _, 1, .str (S l0), rfl, rfl, .inl (.inl hL), atI_nat (j := 1) rfl, Str.ofString "each ", S l0, rfl, rfl, ?_, _, Str.ofString " if ", rfl, rfl, ?_, .ref L, rfl, L, _, 2, .str (S l1), rfl, rfl, .inl (.inl hL), atI_nat (j := 2) rfl, _, S l1, rfl, rfl, ?_,
      _, Str.ofString " put ", rfl, rfl, ?_, .ref L, rfl, L, _, 3, .str (S l2), rfl, rfl, .inl (.inl hL), atI_nat (j := 3) rfl, _, S l2, rfl, rfl, ?_, _, Str.ofString " = ", rfl, rfl, ?_, .ref L, rfl, L, _, 4, .str (S l3), rfl, rfl, .inl (.inl hL), atI_nat (j := 4) rfl, _, S l3, rfl, rfl, ?_, ?_⟩
    iterate 7 (· simp only [len_cat, S_len, nEach, nIf, nP2, nEq, sizeLine_eq]; omega)
    rw [cEach, cIf, cP2, cEq, S_cat, S_cat, S_cat, S_cat, S_cat, S_cat, S_cat, List.append_assoc, List.append_assoc, List.append_assoc, List.append_assoc, List.append_assoc, List.append_assoc]
    exact q H' s'
end
end L10

/-! the law's own chains -/
namespace L10
open PySem PySem.Spec PyProof.Rows L2 GR AD RZ WX ZE TX RVT
open SX (S S_cat S_len S_inj)
abbrev iD (i : Int) : PyData := .tuple [.str "int", .int i]
/-- one form within another -/
inductive Ch (ts cs : List Str) : Nat → PyData → Prop
  | int (i : Int) : -(10 ^ 18) ≤ i → i ≤ 10 ^ 18 → Ch ts cs 0 (iD i)
  | cell (n : Nat) (t c : Str) (x : PyData) : t ∈ ts → c ∈ cs → Ch ts cs n x → Ch ts cs (n + 1) (.tuple [.str "cell", .str t, x, .str c])
  | add (n : Nat) (k : Int) (x : PyData) : 0 ≤ k → k ≤ 100 → Ch ts cs n x → Ch ts cs (n + 1) (.tuple [.str "+", x, iD (0 - k)])
  | eq (n : Nat) (k : Int) (x : PyData) : 0 ≤ k → k ≤ 100 → Ch ts cs n x → Ch ts cs (n + 1) (.tuple [.str "=", iD k, x])
  | iff (n : Nat) (x : PyData) : Ch ts cs n x → Ch ts cs (n + 1) (.tuple [.str "if", iD 0, x, iD 1])
  | at_ (n : Nat) (k : Int) (x : PyData) : 0 ≤ k → k ≤ 100 → Ch ts cs n x → Ch ts cs (n + 1) (.tuple [.str "at", iD k, x])
section
variable {P : Program} {w : World} {K : PySem.W.Frag} {mg : Str → Option Value} {base : Heap}
abbrev s_law_chain : Stmt := topS 83
abbrev N_lch : List Str := ["_law_deck_here", "_law_world_here", "_law_thing", "_law_table", "_law_column", "_law_way", "_law_k", "_law_some"]
theorem sc_law_chain : FnScope N_lch ["_law_deck_here", "_law_world_here"] (defScope s_law_chain) := ⟨rfl, rfl, rfl, by decide +kernel, rfl, by decide +kernel, by decide +kernel⟩
def sp_chain (K : PySem.W.Frag) : Sp := fun vs H Q _ => ∃ (d c u : Addr) (N : Int) (ts cs ns : List Str), vs = [.ref d, .ref u] ∧ Deck H d c N ∧ N < 2 ^ 52 ∧ AtW H d c u ts cs ns ∧
  ∀ H' v x m, Keep d c H H' → Deck H' d c (N + 40) → m ≤ 12 → Ch ts cs m x → Dd K F0 H' v (.tuple [.str "tell", x]) → Q v H'
theorem ok_law_chain {f f_law_draw f_law_pick f_int : Addr} {fd fd_law_draw fd_law_pick d_int : FuncData} {k : Nat} (F : Fun K "_law_chain" "_law_chain" s_law_chain f fd) (G_law_draw : FnOk P w K mg base CX0 k f_law_draw fd_law_draw ["_law_deck_here", "_law_most"] sp_draw)
    (g_law_draw : mg "_law_draw" = some (.ref f_law_draw)) (K_law_draw : PySem.W.keepIn K (.ref f_law_draw) = true) (b_law_draw : Binds K fd_law_draw ["_law_deck_here", "_law_most"] [])
    (G_law_pick : FnOk P w K mg base CX0 k f_law_pick fd_law_pick ["_law_deck_here", "_law_some"] (sp_pick K))
    (g_law_pick : mg "_law_pick" = some (.ref f_law_pick)) (K_law_pick : PySem.W.keepIn K (.ref f_law_pick) = true) (b_law_pick : Binds K fd_law_pick ["_law_deck_here", "_law_some"] [])
    (G_int : FnOk P w K mg base CX0 k f_int d_int ps_in sp_int) (g_int : mg "_law_integer" = some (.ref f_int)) (K_int : PySem.W.keepIn K (.ref f_int) = true) (b_int : Binds K d_int ps_in []) (mrange : mg "range" = none) : FnOk P w K mg base CX0 (k + 1) f fd ["_law_deck_here", "_law_world_here"] (sp_chain K) := by
  have nd := sc_law_chain.nd
  refine F.ok sc_law_chain (fun vs H Q E h => ?_) (fun cdv A outer s H vs Q E hr h => ?_)
  · obtain ⟨d, c, u, N, ts, cs, ns, rfl, _⟩ := h
    rfl
  obtain ⟨d, c, u, N, ts, cs, ns, rfl, D, hN, W, q⟩ := h
  have hu1 : (A.deeper (envOfC "_law_chain" (defScope s_law_chain) s.heap.objs.size f cdv)).units + 1 < cLine := by
    have := hr.units
    omega
  refine ⟨_, (pss_cons (ps_set (i := 2) nd rfl (.inl rfl) (pe_tup (pa_cons pe_str (pa_cons (pe_call G_int hr (by rfl) g_int K_int b_int .nil pass0 (pa_cons (pv 0) (pa_cons (pv 1) pa_nil))) pa_nil))))
      (pss_cons (ps_par (i := 3) (j := 4) rfl nd rfl rfl (by decide) rfl rfl (pa_cons (pe_call G_law_pick hr (by rfl) g_law_pick K_law_pick b_law_pick .nil pass0 (pa_cons (pv 0) (pa_cons (pe_dget hu1 (pv 1) pe_str noSl_str) pa_nil))) (pa_cons (pe_call G_law_pick hr (by rfl) g_law_pick K_law_pick b_law_pick .nil pass0 (pa_cons (pv 0) (pa_cons (pe_dget hu1 (pv 1) pe_str noSl_str) pa_nil))) pa_nil)) (by rfl))
      (pss_cons (ps_set (i := 5) nd rfl (.inl rfl) (pe_call G_law_draw hr (by rfl) g_law_draw K_law_draw b_law_draw .nil pass0 (pa_cons (pv 0) (pa_cons pe_int pa_nil))))
      (pss_cons (ps_for PassesOwn.never rfl (pi_range1 rfl mrange (pa_cons (pe_op op_add pe_int (pe_call G_law_draw hr (by rfl) g_law_draw K_law_draw b_law_draw .nil pass0 (pa_cons (pv 0) (pa_cons pe_int pa_nil)))) pa_nil)) (pg_name (i := 6) nd rfl (Or.inl rfl))
      (pss_cons (ps_set (i := 7) nd rfl (.inl rfl) (pe_lst (pa_cons (pe_tup (pa_cons pe_str (pa_cons (pv 3) (pa_cons (pv 2) (pa_cons (pv 4) pa_nil))))) (pa_cons (pe_tup (pa_cons pe_str (pa_cons (pv 2) (pa_cons (pe_tup (pa_cons pe_str (pa_cons (pe_op op_sub pe_int (pv 6)) pa_nil))) pa_nil)))) (pa_cons (pe_tup (pa_cons pe_str (pa_cons (pe_tup (pa_cons pe_str (pa_cons (pv 6) pa_nil))) (pa_cons (pv 2) pa_nil)))) pa_nil)))))
        (pss_cons (ps_set (i := 7) nd rfl (.inl rfl) (pe_op op_cat (pv 7) (pe_lst (pa_cons (pe_tup (pa_cons pe_str (pa_cons (pe_tup (pa_cons pe_str (pa_cons pe_int pa_nil))) (pa_cons (pv 2) (pa_cons (pe_tup (pa_cons pe_str (pa_cons pe_int pa_nil))) pa_nil))))) (pa_cons (pe_tup (pa_cons pe_str (pa_cons (pe_tup (pa_cons pe_str (pa_cons (pv 6) pa_nil))) (pa_cons (pv 2) pa_nil)))) pa_nil)))))
        (pss_one (ps_set (i := 2) nd rfl (.inl rfl) (pe_ifExp (pt_cmpR op_lt (pv 5) pe_int (nomark _)) (pe_ix ix_list (pv 7) (pv 5) (fun _ _ => rfl)) (pe_call G_law_pick hr (by rfl) g_law_pick K_law_pick b_law_pick .nil pass0 (pa_cons (pv 0) (pa_cons (pv 7) pa_nil)))))))))
      (pss_one (ps_ret (pe_tup (pa_cons pe_str (pa_cons (pv 2) pa_nil))))))))), ?_⟩
  refine ⟨.ref d, rfl, .ref u, rfl, d, c, u, N, ts, cs, ns, rfl, D, by omega, W, fun H1 i0 k1 D1 i1 i2 => ⟨small_le (show 2 ≤ 1000 by decide), fun a0 na0 => ?_⟩⟩
  have sa0 := same_upd (o := .tup [.str "int", .int i0]) na0
  have D1' := D1.same sa0
  have k01 := k1.trans (Keep.of sa0)
  have hx0 : Dd K F0 (upd H1 a0 (.tup [.str "int", .int i0])) (.ref a0) (iD i0) := .tup (.inl (.inl upd_same)) (.cons (.str _) (.cons (.int i0) .nil))
  revert D1' k01 hx0
  generalize upd H1 a0 (.tup [.str "int", .int i0]) = H2
  intro D1' k01 hx0
  obtain ⟨tl, cl, nl, kl, ks, W0⟩ := W
  have W1 := W0.keep k01
  refine ⟨.ref d, rfl, .ref u, rfl, u, .ref tl, rfl, ?_, .inl ⟨d, c, tl, _, _, rfl, D1', by omega, .inl (.inl W1.ht), ?_, ?_, W1.t0.1, W1.t0.2, fun H3 vt k3 D3 hvt => ?_⟩⟩
  · rw [← wD_t tl cl nl kl]
    exact DGet.k (k := .inr "tables") W1.dct
  · intro e
    have := congrArg List.length e
    rw [List.length_map, W0.lt] at this
    cases this
  · rw [List.length_map, W0.lt]
    decide
  obtain ⟨t, ht, rfl⟩ := List.mem_map.mp hvt
  have k03 := k01.trans k3
  have W3 := W0.keep k03
  refine ⟨.ref d, rfl, .ref u, rfl, u, .ref cl, rfl, ?_, .inl ⟨d, c, cl, _, _, rfl, D3, by omega, .inl (.inl W3.hc), ?_, ?_, W3.c0.1, W3.c0.2, fun H4 vc k4 D4 hvc => ?_⟩⟩
  · rw [← wD_c tl cl nl kl]
    exact DGet.k (k := .inr "columns") W3.dct
  · intro e
    have := congrArg List.length e
    rw [List.length_map, W0.lc] at this
    cases this
  · rw [List.length_map, W0.lc]
    decide
  obtain ⟨z, hz, rfl⟩ := List.mem_map.mp hvc
  have k04 := k03.trans k4
  refine ⟨_, _, rfl, .ref d, rfl, d, c, _, 6, rfl, D4, by omega, by decide, by decide, fun H5 way k5 D5 w0 w1 => ?_⟩
  obtain ⟨way, rfl⟩ := Int.eq_ofNat_of_zero_le w0
  refine ⟨.ref d, rfl, d, c, _, 3, rfl, D5, by omega, by decide, by decide, fun H6 m k6 D6 m0 m1 => ?_⟩
  obtain ⟨m, rfl⟩ := Int.eq_ofNat_of_zero_le m0
  refine ⟨_, _, rfl, rfl, (10 : Int) + (m : Int), rfl, by omega, by omega, ?_⟩
  rw [show ((10 : Int) + (m : Int)).toNat = 10 + m by omega]
  have hx6 := hx0.keep (kf0 ((((k3.trans k4).trans k5).trans k6).t D1'))
  have k06 := (k04.trans k5).trans k6
  clear D1' D3 D4 D5 k3 k4 k5 k6 W1 W3 k01 k03 k04 hx0 D1 k1 sa0 na0
  refine for_range (n := 10 + m) (fun i σ H' => ∃ (y6 y7 : Option V) (vt : V) (x : PyData), σ = [some (.ref d), some (.ref u), some vt, some (.str t), some (.str z), some (.int (way : Int)), y6, y7] ∧ Keep d c H H' ∧ Deck H' d c (N + 8 + (i : Int)) ∧ Dd K F0 H' vt x ∧ Ch ts cs i x) ?_ ?_ ?_
  · exact ⟨none, none, _, _, rfl, k06, D6.mono (by omega), hx6, .int i0 i1 i2⟩
  · rintro i σ H7 hi ⟨y6, y7, vt, x, rfl, k7, D7, hx, hc⟩
    refine ⟨.str t, rfl, vt, rfl, .str z, rfl, small_le (show 4 ≤ 1000 by decide), fun a1 n1 => ?_⟩
    have s1 := same_upd (o := .tup [.str "cell", .str t, vt, .str z]) n1
    have e1 : Dd K F0 (upd H7 a1 (.tup [.str "cell", .str t, vt, .str z])) (.ref a1) (.tuple [.str "cell", .str t, x, .str z]) := .tup (.inl (.inl upd_same)) (.cons (.str _) (.cons (.str t) (.cons (hx.keep (KeepO.of s1)) (.cons (.str z) .nil))))
    have hx1 := hx.keep (KeepO.of s1)
    revert s1 e1 hx1
    generalize upd H7 a1 (.tup [.str "cell", .str t, vt, .str z]) = G1
    intro s1 e1 hx1
    refine ⟨vt, rfl, .int (0 + (i : Int)), rfl, _, _, rfl, rfl, small_le (show 2 ≤ 1000 by decide), fun a2 n2 => ⟨small_le (show 3 ≤ 1000 by decide), fun a3 n3 => ?_⟩⟩
    have s2 := same_upd (o := .tup [.str "int", .int (0 - (0 + (i : Int)))]) n2
    have s3 := same_upd (o := .tup [.str "+", vt, .ref a2]) n3
    have e3 : Dd K F0 (upd (upd G1 a2 (.tup [.str "int", .int (0 - (0 + (i : Int)))])) a3 (.tup [.str "+", vt, .ref a2])) (.ref a3) (.tuple [.str "+", x, iD (0 - (0 + (i : Int)))]) :=
      .tup (.inl (.inl upd_same)) (.cons (.str _) (.cons (hx1.keep (KeepO.of (s2.trans s3))) (.cons (.tup (.inl (.inl (s3 _ _ upd_same))) (.cons (.str _) (.cons (.int _) .nil))) .nil)))
    have s23 := s2.trans s3
    have hx3 := hx1.keep (KeepO.of s23)
    replace e1 := e1.keep (KeepO.of s23)
    revert s23 e3 hx3 e1
    generalize upd (upd G1 a2 (.tup [.str "int", .int (0 - (0 + (i : Int)))])) a3 (.tup [.str "+", vt, .ref a2]) = G3
    intro e3 s23 hx3 e1
    refine ⟨.int (0 + (i : Int)), rfl, small_le (show 2 ≤ 1000 by decide), fun a4 n4 => ⟨vt, rfl, small_le (show 3 ≤ 1000 by decide), fun a5 n5 => ⟨small_le (show 3 ≤ 1000 by decide), fun L nL => ?_⟩⟩⟩
    have s4 := same_upd (o := .tup [.str "int", .int (0 + (i : Int))]) n4
    have s5 := same_upd (o := .tup [.str "=", .ref a4, vt]) n5
    have sL := same_upd (o := .lst [.ref a1, .ref a3, .ref a5]) nL
    have s45 := s4.trans s5
    have e5 : Dd K F0 (upd (upd G3 a4 (.tup [.str "int", .int (0 + (i : Int))])) a5 (.tup [.str "=", .ref a4, vt])) (.ref a5) (.tuple [.str "=", iD (0 + (i : Int)), x]) :=
      .tup (.inl (.inl upd_same)) (.cons (.str _) (.cons (.tup (.inl (.inl (s5 _ _ upd_same))) (.cons (.str _) (.cons (.int _) .nil))) (.cons (hx3.keep (KeepO.of s45)) .nil)))
    replace e5 := e5.keep (KeepO.of sL)
    have s4L := s45.trans sL
    have hL : upd (upd (upd G3 a4 (.tup [.str "int", .int (0 + (i : Int))])) a5 (.tup [.str "=", .ref a4, vt])) L (.lst [.ref a1, .ref a3, .ref a5]) L = some (.lst [.ref a1, .ref a3, .ref a5]) := upd_same
    replace e1 := e1.keep (KeepO.of s4L)
    replace e3 := e3.keep (KeepO.of s4L)
    have hx5 := hx3.keep (KeepO.of s4L)
    have sA := (s1.trans s23).trans s4L
    clear s1 s2 s3 s23 s4 s5 s45 sL s4L
    revert e1 e3 e5 hL hx5 sA
    generalize upd (upd (upd G3 a4 (.tup [.str "int", .int (0 + (i : Int))])) a5 (.tup [.str "=", .ref a4, vt])) L (.lst [.ref a1, .ref a3, .ref a5]) = G5
    intro e5 hL e1 e3 hx5 sA
    clear hx1 hx3 n1 n2 n3 n4 n5 nL
    -- two more
    refine ⟨.ref L, rfl, small_le (show 2 ≤ 1000 by decide), fun b1 m1' => ⟨vt, rfl, small_le (show 2 ≤ 1000 by decide), fun b2 m2 => ⟨small_le (show 4 ≤ 1000 by decide), fun b3 m3 => ?_⟩⟩⟩
    have t1 := same_upd (o := .tup [.str "int", .int 0]) m1'
    have t2 := same_upd (o := .tup [.str "int", .int 1]) m2
    have t3 := same_upd (o := .tup [.str "if", .ref b1, vt, .ref b2]) m3
    have t13 := (t1.trans t2).trans t3
    have f3 : Dd K F0 (upd (upd (upd G5 b1 (.tup [.str "int", .int 0])) b2 (.tup [.str "int", .int 1])) b3 (.tup [.str "if", .ref b1, vt, .ref b2])) (.ref b3) (.tuple [.str "if", iD 0, x, iD 1]) :=
      .tup (.inl (.inl upd_same)) (.cons (.str _) (.cons (.tup (.inl (.inl (t3 _ _ (t2 _ _ upd_same)))) (.cons (.str _) (.cons (.int _) .nil))) (.cons (hx5.keep (KeepO.of t13)) (.cons (.tup (.inl (.inl (t3 _ _ upd_same))) (.cons (.str _) (.cons (.int _) .nil))) .nil))))
    have hx6' := hx5.keep (KeepO.of t13)
    revert f3 t13 hx6'
    generalize upd (upd (upd G5 b1 (.tup [.str "int", .int 0])) b2 (.tup [.str "int", .int 1])) b3 (.tup [.str "if", .ref b1, vt, .ref b2]) = G6
    intro t13 f3 hx6'
    refine ⟨.int (0 + (i : Int)), rfl, small_le (show 2 ≤ 1000 by decide), fun b4 m4 => ⟨vt, rfl, small_le (show 3 ≤ 1000 by decide), fun b5 m5 => ⟨small_le (show 2 ≤ 1000 by decide), fun L2 nL2 => ?_⟩⟩⟩
    have t4 := same_upd (o := .tup [.str "int", .int (0 + (i : Int))]) m4
    have t5 := same_upd (o := .tup [.str "at", .ref b4, vt]) m5
    have tL := same_upd (o := .lst [.ref b3, .ref b5]) nL2
    have f5 : Dd K F0 (upd (upd G6 b4 (.tup [.str "int", .int (0 + (i : Int))])) b5 (.tup [.str "at", .ref b4, vt])) (.ref b5) (.tuple [.str "at", iD (0 + (i : Int)), x]) :=
      .tup (.inl (.inl upd_same)) (.cons (.str _) (.cons (.tup (.inl (.inl (t5 _ _ upd_same))) (.cons (.str _) (.cons (.int _) .nil))) (.cons (hx6'.keep (KeepO.of (t4.trans t5))) .nil)))
    have t4L := (t4.trans t5).trans tL
    have tAll := t13.trans t4L
    replace f5 := f5.keep (KeepO.of tL)
    replace f3 := f3.keep (KeepO.of t4L)
    replace e1 := e1.keep (KeepO.of tAll)
    replace e3 := e3.keep (KeepO.of tAll)
    replace e5 := e5.keep (KeepO.of tAll)
    replace hL := tAll _ _ hL
    have hL2 : upd (upd (upd G6 b4 (.tup [.str "int", .int (0 + (i : Int))])) b5 (.tup [.str "at", .ref b4, vt])) L2 (.lst [.ref b3, .ref b5]) L2 = some (.lst [.ref b3, .ref b5]) := upd_same
    replace sA := sA.trans tAll
    clear t1 t2 t3 t13 t4 t5 tL t4L tAll
    revert f5 f3 e1 e3 e5 hL hL2 sA
    generalize upd (upd (upd G6 b4 (.tup [.str "int", .int (0 + (i : Int))])) b5 (.tup [.str "at", .ref b4, vt])) L2 (.lst [.ref b3, .ref b5]) = G8
    intro f5 f3 e1 e3 e5 hL hL2 sA
    refine ⟨L, L2, _, _, rfl, rfl, hL, hL2, small_le (show 5 ≤ 1000 by decide), fun M nM => ?_⟩
    have sM := same_upd (o := .lst ([.ref a1, .ref a3, .ref a5] ++ [.ref b3, .ref b5])) nM
    have hM : upd G8 M (.lst ([.ref a1, .ref a3, .ref a5] ++ [.ref b3, .ref b5])) M = some (.lst ([V.ref a1, .ref a3, .ref a5] ++ [.ref b3, .ref b5])) := upd_same
    have D8 := (D7.same sA).same sM
    have hMd := (D7.same sA).new nM
    have k8 := (k7.trans (Keep.of sA)).trans (Keep.of sM)
    have hi12 : (0 : Int) + (i : Int) ≤ 100 := by omega
    have hi0 : (0 : Int) ≤ 0 + (i : Int) := by omega
    have all : ∀ v, v ∈ ([V.ref a1, .ref a3, .ref a5] ++ [.ref b3, .ref b5]) → ∃ x', Dd K F0 (upd G8 M (.lst ([.ref a1, .ref a3, .ref a5] ++ [.ref b3, .ref b5]))) v x' ∧ Ch ts cs (i + 1) x' := by
      intro v hv
      simp only [List.cons_append, List.nil_append, List.mem_cons, List.not_mem_nil, or_false] at hv
      rcases hv with rfl | rfl | rfl | rfl | rfl
      · exact ⟨_, e1.keep (KeepO.of sM), .cell i t z x ht hz hc⟩
      · exact ⟨_, e3.keep (KeepO.of sM), .add i _ x hi0 hi12 hc⟩
      · exact ⟨_, e5.keep (KeepO.of sM), .eq i _ x hi0 hi12 hc⟩
      · exact ⟨_, f3.keep (KeepO.of sM), .iff i x hc⟩
      · exact ⟨_, f5.keep (KeepO.of sM), .at_ i _ x hi0 hi12 hc⟩
    revert hM D8 k8 all
    generalize upd G8 M (.lst ([.ref a1, .ref a3, .ref a5] ++ [.ref b3, .ref b5])) = G9
    intro hM D8 k8 all
    refine ⟨.int (way : Int), rfl, _, _, rfl, rfl, _, rfl, ite2 (fun e => ?_) (fun e => ?_)⟩
    · have hw : way < 5 := by
        have := of_decide_eq_true e
        omega
      have hge : ([V.ref a1, .ref a3, .ref a5] ++ [.ref b3, .ref b5])[way]? = some (([V.ref a1, .ref a3, .ref a5] ++ [.ref b3, .ref b5])[way]'hw) := List.getElem?_eq_getElem hw
      obtain ⟨x', h1, h2⟩ := all _ (List.mem_of_getElem? hge)
      exact ⟨.ref M, rfl, .int (way : Int), rfl, M, _, (way : Int), _, rfl, rfl, .inl (.inl hM), atI_nat (j := way) hge, _, _, _, x', rfl, k8, D8.mono (by omega), h1, h2⟩
    · refine ⟨.ref d, rfl, .ref M, rfl, .inl ⟨d, c, M, _, _, rfl, D8, by omega, .inl (.inl hM), List.cons_ne_nil _ _, (by show 5 ≤ 1000; decide), hMd.1, hMd.2, fun H9 v k9 D9 hv => ?_⟩⟩
      obtain ⟨x', h1, h2⟩ := all v hv
      exact ⟨_, _, v, x', rfl, k8.trans k9, D9.mono (by omega), h1.keep (kf0 (k9.t D8)), h2⟩
  · rintro σ H7 ⟨y6, y7, vt, x, rfl, k7, D7, hx, hc⟩
    refine ⟨vt, rfl, small_le (show 2 ≤ 1000 by decide), fun a na => ?_⟩
    have sa := same_upd (o := .tup [.str "tell", vt]) na
    exact q _ _ x (10 + m) (k7.trans (Keep.of sa)) ((D7.same sa).mono (by omega)) (by omega) hc (.tup (.inl (.inl upd_same)) (.cons (.str _) (.cons (hx.keep (KeepO.of sa)) .nil)))
end
end L10

/-! what the law draws is good -/
namespace L10
open PySem PySem.Spec PyProof.Rows L2 GR AD RZ WX ZE TX RVT
open SX (S S_cat S_len S_inj)
theorem flatDs_all : ∀ {ds : List PyData}, (∀ d, d ∈ ds → flatD d = true) → flatDs ds = true
  | [], _ => by rw [flatDs]
  | d :: ds, h => by rw [flatDs, h d List.mem_cons_self, flatDs_all fun x hx => h x (List.mem_cons_of_mem _ hx)]; rfl
theorem zip_left {P : PyData → Prop} {xs : List PyData} {ls : List (List Nat)} (hl : ls.length = xs.length) (h : ∀ p, p ∈ xs.zip ls → P p.1) : ∀ x, x ∈ xs → P x := fun x hx => by
  obtain ⟨i, hi, rfl⟩ := List.getElem_of_mem hx
  have hx : i < ls.length := by omega
  refine h (xs[i], ls[i]) (List.mem_of_getElem? (i := i) ?_)
  rw [List.getElem?_zip_eq_some]
  exact ⟨List.getElem?_eq_getElem hi, List.getElem?_eq_getElem hx⟩
theorem Tx.flat {n : Nat} {d : PyData} {l : List Nat} (h : Tx n d l) : flatD d = true := by
  induction h with
  | int n i h1 h2 => rfl
  | key n => rfl
  | var n z hz => rfl
  | cell n t v x l h1 h2 _ ih => simp only [flatD, flatDs, ih, Bool.and_self, Bool.and_true]
  | op n o x y l m ho _ _ ih1 ih2 => simp only [flatD, flatDs, ih1, ih2, Bool.and_self, Bool.and_true]
  | call n o xs ls ho hl _ ih =>
    have := flatDs_all (zip_left (P := fun d => flatD d = true) hl ih)
    simp only [flatD, flatDs, this, Bool.and_self]
  | agg n o t xs ls h0 ho ht hl _ ih =>
    have := flatDs_all (zip_left (P := fun d => flatD d = true) hl ih)
    have e : flatD (rowX t) = true := rfl
    simp only [flatD, flatDs, this, e, Bool.and_self]
theorem Sx.flat {n : Nat} {d : PyData} {l : List Nat} (h : Sx n d l) : flatD d = true := by
  cases h with
  | let_ z x l hz hx => simp only [flatD, flatDs, hx.flat, Bool.and_self]
  | one o x l ho hx => simp only [flatD, flatDs, hx.flat, Bool.and_self]
  | put t c k x l m ht hc hk hx => simp only [flatD, flatDs, hk.flat, hx.flat, Bool.and_self]
  | each t c k x l m ht hc hk hx => simp only [flatD, flatDs, hk.flat, hx.flat, Bool.and_self]
theorem Sx.len {n : Nat} {d : PyData} {l : List Nat} (h : Sx n d l) : l.length ≤ 30 * sz d := by
  have s1 : ∀ z : Str, sz (.str z) = 1 := fun _ => rfl
  cases h with
  | let_ z x l hz hx =>
    have := nm_len hz
    have := hx.len
    rw [sz, szs, szs, szs, szs, s1, s1]
    simp only [List.length_append, List.length_cons, List.length_nil]
    omega
  | one o x l ho hx =>
    have : (wd o).length ≤ 4 := by rcases ho with rfl | rfl <;> decide
    have := hx.len
    rw [sz, szs, szs, szs, s1]
    simp only [List.length_append, List.length_cons, List.length_nil]
    omega
  | put t c k x l m ht hc hk hx =>
    have := nm_len ht
    have := nm_len hc
    have := hk.len
    have := hx.len
    rw [sz, szs, szs, szs, szs, szs, szs, s1, s1, s1]
    simp only [List.length_append, List.length_cons, List.length_nil]
    omega
  | each t c k x l m ht hc hk hx =>
    have := nm_len ht
    have := nm_len hc
    have := hk.len
    have := hx.len
    rw [sz, szs, szs, szs, szs, szs, szs, s1, s1, s1]
    simp only [List.length_append, List.length_cons, List.length_nil]
    omega
/-- a statement's text -/
noncomputable def stx (d : PyData) : List Nat := open Classical in if h : ∃ l, Sx 13 d l then h.choose else []
theorem stx_spec {d : PyData} (h : ∃ l, Sx 13 d l) : Sx 13 d (stx d) := by
  unfold stx
  rw [dif_pos h]
  exact h.choose_spec
theorem zip_map {f : PyData → List Nat} : ∀ {ds : List PyData} {p : PyData × List Nat}, p ∈ ds.zip (ds.map f) → p.1 ∈ ds ∧ p.2 = f p.1
  | [], p, h => nomatch h
  | d :: ds, p, h => by
    rw [List.map_cons, List.zip_cons_cons] at h
    rcases List.mem_cons.mp h with rfl | h
    · exact ⟨List.mem_cons_self, rfl⟩
    · obtain ⟨a, b⟩ := zip_map h
      exact ⟨List.mem_cons_of_mem _ a, b⟩
/-- all that is asked of what is shown and read -/
structure Gd (ds : List PyData) (Z : List Str) : Prop where
  tt : Tt 13 ds (ds.map stx)
  zp : ∀ d, d ∈ ds → Zp Z d
  zl : Z.length ≤ 60
  go : goT [] ds = true
  shw : Shw (.tuple ds)
  shd : SeqAt.shaped (.tuple ds) = true
theorem sum_const {b : Nat} : ∀ ds : List PyData, (ds.map fun _ => b).sum = ds.length * b
  | [] => by rw [List.map_nil, List.sum_nil, List.length_nil, Nat.zero_mul]
  | d :: ds => by rw [List.map_cons, List.sum_cons, sum_const ds, List.length_cons, Nat.add_mul, Nat.one_mul, Nat.add_comm]
theorem gd_of {Z : List Str} {ds : List PyData} (hZ : Z.length ≤ 60) (hl : ds.length ≤ 30) (hb : ∀ d, d ∈ ds → Bd Z 9 (10 ^ 39) 73000 7300 38 d) (hs : ∀ d, d ∈ ds → ∃ l, Sx 13 d l) (hg : goT [] ds = true) : Gd ds Z := by
  have hsx : ∀ d, d ∈ ds → Sx 13 d (stx d) := fun d hd => stx_spec (hs d hd)
  have hpl : ∀ d, d ∈ ds → PartsLe d 100000 := fun d hd es e y hy => by
    have h1 := (hb d hd).sz
    rw [e, L10.sz] at h1
    have := sz_mem hy
    omega
  have hat : atBs Z 9 (10 ^ 39) ds = true := ats_of fun y hy => (hb y hy).toEl
  have hdp : PyData.depthAll ds ≤ 38 := depthAll_of fun y hy => (hb y hy).toEl
  have hT : atB Z 9 (10 ^ 39) (.tuple ds) = true := by rw [atB]; exact hat
  have hdT : (PyData.tuple ds).depth ≤ 39 := by simp only [PyData.depth]; omega
  have hsh : shB (.tuple ds) = true := at_sh (by decide) _ hT
  refine ⟨⟨List.length_map .., fun p hp => ?_, hl, fun l hm => ?_, hpl⟩, fun d hd => ⟨at_tx d (hb d hd).at', fun es e y hy => ?_⟩, hZ, hg, ⟨at_shw (by decide) _ hT, by omega, ?_⟩, ?_⟩
  · obtain ⟨h1, h2⟩ := zip_map hp
    rw [h2]
    exact hsx _ h1
  · obtain ⟨d, hd, rfl⟩ := List.mem_map.mp hm
    have h1 := (hsx d hd).len
    have h2 := (hb d hd).sz
    omega
  · subst e
    have h1 := (hb _ hd).at'
    have h2 := (hb _ hd).dep
    have h3 := (hb _ hd).sz
    rw [atB] at h1
    simp only [PyData.depth] at h2
    rw [L10.sz] at h3
    have e1 := els_inv (p := 37) (by omega) h1 y hy
    have := sz_mem hy
    exact ⟨at_sh (by decide) _ e1.at', Nat.lt_of_le_of_lt e1.dep (by decide), by omega⟩
  · have h1 := shown_wl (.tuple ds)
    have h2 := wl_tup ds
    have h3 := wls_le (b := fun _ => 73002) (ds := ds) fun d hd => by
      have := (hb d hd).len
      omega
    rw [sum_const] at h3
    have h4 : ds.length * 73002 ≤ 30 * 73002 := Nat.mul_le_mul_right _ hl
    rw [sizeLine_eq]
    omega
  · unfold SeqAt.shaped
    rw [Bool.and_eq_true]
    refine ⟨lay_of _ ?_ hsh, decide_eq_true (by omega)⟩
    rw [flatD]
    exact flatDs_all fun d hd => (hsx d hd).flat
theorem svs_dd {K : PySem.W.Frag} {H : Hp} : ∀ {us : List V} {ds : List PyData}, SVs K H us ds → DdAll K F0 H us ds
  | _, _, .nil => .nil
  | _, _, .cons h t => by
    obtain ⟨p, w, v1, vs, _, _, _, h3, h4⟩ := h
    exact .cons (dd_of _ _ h4.flat h3) (svs_dd t)
section
variable {P : Program} {w : World} {K : PySem.W.Frag} {mg : Str → Option Value} {base : Heap}
abbrev s_law_right : Stmt := topS 84
abbrev N_rg : List Str := ["_law_transaction_here", "_law_due", "_law_found", "_law_statement_here"]
theorem sc_law_right : FnScope N_rg ["_law_transaction_here"] (defScope s_law_right) := ⟨rfl, rfl, rfl, by decide +kernel, rfl, by decide +kernel, by decide +kernel⟩
def sp_right (K : PySem.W.Frag) : Sp := fun vs H Q _ => ∃ (a : Addr) (us : List V) (ds : List PyData) (Z : List Str), vs = [.ref a] ∧ SqT K H a us ∧ DdAll K F0 H us ds ∧ Gd ds Z ∧ ∀ H', Same H H' → Q (.bl true) H'
theorem ok_right {f : Addr} {fd : FuncData} {k : Nat} (F : Fun K "_law_right" "_law_right" s_law_right f fd) (XR : DF P w K mg base "_law_row" ["_law_statement_here"] (sp_lrow K 13) k) (XS : DF P w K mg base "show_transaction" ["transaction"] (sp_shtr K) k)
    (XT : DF P w K mg base "read_transaction" ["thing"] (sp_rtr K 13) k) (misi : mg "isinstance" = none) (mstr : mg "str" = none) (mrepr : mg "repr" = none) : FnG P w K mg base CX0 (k + 1) f fd ["_law_transaction_here"] (sp_right K) := by
  have nd := sc_law_right.nd
  obtain ⟨fr, dr, GR, gR, KR, bR⟩ := XR
  obtain ⟨fs, dS, GS, gS, KS, bS⟩ := XS
  obtain ⟨ft, dt, GT, gT, KT, bT⟩ := XT
  refine ok_g F sc_law_right (fun vs H Q E h => ?_) (fun cdv A outer s H vs Q E hg hr h => ?_)
  · obtain ⟨a, us, ds, Z, rfl, _⟩ := h
    rfl
  obtain ⟨a, us, ds, Z, rfl, hS, hA, hG, q⟩ := h
  refine ⟨_, (pss_cons (ps_set (i := 1) nd rfl (.inl rfl) (pe_join pe_str (pe_lc (own := [("_law_statement_here", 3)]) (tt := tYes) (te := tCall (sp_lrow K 13) [] E0 (tCons (tVar 3) tNil)) rfl nd (pi_tup (pv 0)) (blkOk_by (N := N_rg) (sc := defScope s_law_right) (by decide +kernel)) (fun _ _ _ _ _ => (pg_name (i := 3) nd rfl (Or.inl rfl))) (fun _ _ _ _ _ => pts_nil) (fun _ _ _ _ _ => (pe_call GR hr (by rfl) gR KR bR .nil pass0 (pa_cons (pv 3) pa_nil))))))
      (pss_cons (ps_set (i := 2) nd rfl (.inl rfl) (pe_call GS hr (by rfl) gS KS bS .nil pass0 (pa_cons (pv 0) pa_nil)))
      (pss_cons (ps_if (PW.pt (pw_or (pt_not (pt_val (pe_callB call_isi (by rfl) misi boot_isinstance (pa_cons (pv 2) (pa_cons (pe_bltn (v := .ty "str") (by rfl) mstr boot_str rfl) pa_nil))))) (pw_or1 (pt_cmpR op_ne (pv 2) (pv 1) (nomark _)))))
      (pss_one (ps_ret pe_bl))
      pss_nil)
      (pss_one (ps_ret (pe_cmpR op_eq (pe_callB (call_reprA hg hr) (by rfl) mrepr boot_repr (pa_cons (pe_call GT hr (by rfl) gT KT bT .nil pass0 (pa_cons (pv 1) pa_nil)) pa_nil)) (pe_callB (call_reprA hg hr) (by rfl) mrepr boot_repr (pa_cons (pv 0) pa_nil)) (nomark _))))))), ?_⟩
  have hT := hG.tt
  have lu := hA.len
  have hsum := hT.sum
  generalize hls : ds.map stx = ls at hT hsum
  refine ⟨⟨_, rfl⟩, .ref a, rfl, a, rfl, ⟨us, hS⟩, fun D nD => ?_⟩
  refine walk_bodyT (xs := us) (fun i H' => H' D = some (.lst (SA (ls.take i))) ∧ ∀ b o, b ≠ D → H b = some o → H' b = some o) ?_ ?_ ?_ ?_
  · exact ⟨upd_same, fun b o nb e => by rw [upd_ne nb]; exact e⟩
  · rintro i H' _ ⟨_, kp⟩
    exact (KeepT.of (fun b o e => kp b o (ne_of_none e nD) e)).seqt hS
  · rintro i y H' hy ⟨hD, kp⟩
    have s1' : Same H H' := fun b o e => kp b o (ne_of_none e nD) e
    obtain ⟨di, hdi, hyd⟩ := dd_at (hA.keep (KeepO.of s1')) hy
    obtain ⟨li, hli, hsx, hll⟩ := hT.at hdi
    have hi : i < us.length := (List.getElem?_eq_some_iff.mp hy).1
    have hf60 := hT.few
    have hle : (SA (ls.take i)).length < sizeLine := by
      rw [List.length_map, List.length_take, sizeLine_eq]
      omega
    refine ⟨rfl, yes_then ⟨y, rfl, y, di, li, rfl, hyd, hsx, by omega, hT.sz _ (List.mem_of_getElem? hdi), fun H2 s2 => ⟨_, s2 _ _ hD, hle, ?_, fun b o nb e => ?_⟩⟩⟩
    · rw [upd_same, take_at hli]
      unfold SA
      rw [List.map_append, List.map_singleton]
    · rw [upd_ne nb]
      exact s2 _ _ (kp b o nb e)
  rintro H' ⟨hD, kp⟩
  rw [lu, ← hT.len, List.take_length] at hD
  have e1 : SA ls = (ls.map S).map V.str := by
    unfold SA
    rw [List.map_map]
    rfl
  have s0 : Same H H' := fun b o e => kp b o (ne_of_none e nD) e
  refine ⟨Str.ofString "\n", D, ls.map S, rfl, rfl, .inl (.inl (.inl (by rw [← e1]; exact hD))), ?_, ?_⟩
  · have : ((ls.map S).map (·.length)).sum = (ls.map List.length).sum := by
      rw [List.map_map]
      congr 1
    rw [this, List.length_map]
    show _ + ls.length * 1 ≤ _
    omega
  rw [show PySem.Str.ofString "\n" = S [10] by decide +kernel, SX.join_S]
  refine ⟨.ref a, rfl, a, us, 13, ds, ls, rfl, (KeepT.of s0).seqt hS, hA.keep (KeepO.of s0), hT, fun H2 s2 => ?_⟩
  refine ⟨.str (S (rows ls)), rfl, .str (S (rows ls)), .ty "str", _, _, true, rfl, .ty "str", (Dd.ty (K := K) (H := H2) (ok := F0) (.str (S (rows ls)))), kit_s K _, _, rfl, iteF ⟨.str (S (rows ls)), rfl, .str (S (rows ls)), rfl, rfl, _, rfl, ?_⟩⟩
  rw [show (!decide (V.str (S (rows ls)) = V.str (S (TL.joinL [10] ls)))) = false by rw [decide_eq_true rfl]; rfl]
  have s02 := s0.trans s2
  refine iteF ⟨.str (S (rows ls)), rfl, ds, ls, Z, rfl, hT, hG.zp, hG.zl, hG.go, fun H3 v s3 hv => ?_⟩
  refine ⟨v, .tuple ds, F0, rfl, fun _ h => h.elim, hv, hG.shw, .ref a, rfl, .ref a, .tuple ds, F0, rfl, fun _ h => h.elim, .tup ((KeepT.of (s02.trans s3)).seqt hS) (hA.keep (KeepO.of (s02.trans s3))), hG.shw, rfl, ?_⟩
  rw [decide_eq_true rfl]
  exact q H3 (s02.trans s3)
end
end L10

/-! what the law draws is good: chains, lets ahead -/
namespace L10
open PySem PySem.Spec PyProof.Rows L2 GR AD RZ WX ZE TX RVT
open SX (S S_cat S_len S_inj)
theorem Cx.widen {zs sc sc' : List Str} (hs : ∀ z, z ∈ sc → z ∈ sc') {b : Bool} {n : Nat} {x : PyData} (h : Cx zs sc b n x) : Cx zs sc' b n x := by
  induction h with
  | int b n i h1 h2 => exact .int b n i h1 h2
  | let_ b n i g h1 h2 => exact .let_ b n i g h1 h2
  | key n => exact .key n
  | var b n z h1 => exact .var b n z (hs z h1)
  | cell b n t v x h1 h2 _ ih => exact .cell b n t v x h1 h2 ih
  | op b n o x y h1 _ _ ih1 ih2 => exact .op b n o x y h1 ih1 ih2
  | at_ b n x y _ _ ih1 ih2 => exact .at_ b n x y ih1 ih2
  | iff b n x y z _ _ _ ih1 ih2 ih3 => exact .iff b n x y z ih1 ih2 ih3
  | agg b n o t p xs vs ds hh h0 h1 h2 h3 h4 h5 h6 h7 ih1 ih2 ih3 ih4 => exact .agg b n o t p xs vs ds hh h0 h1 h2 h3 (fun x hx => ih1 x hx) ih2 (fun x hx => ih3 x hx) (fun x hx => ih4 x hx)
theorem StX.widen {ts cs sc sc' : List Str} (hs : ∀ z, z ∈ sc → z ∈ sc') {x : PyData} (h : StX ts cs sc x) (hn : L10.letNm x = none) : StX ts cs sc' x := by
  cases h with
  | let_ z x h1 h2 h3 => exact absurd (show some z = none from hn) (fun e => nomatch e)
  | need x h => exact .need x (h.widen hs)
  | tell x h => exact .tell x (h.widen hs)
  | each t z x y h1 h2 h3 h4 => exact .each t z x y h1 h2 (h3.widen hs) (h4.widen hs)
  | put t z x y h1 h2 h3 h4 => exact .put t z x y h1 h2 (h3.widen hs) (h4.widen hs)
theorem Chain.mem {ts cs : List Str} {ds : List PyData} (h : Chain ts cs ds) : ∀ x, x ∈ ds → ∃ sc, (∀ z, z ∈ sc → z ∈ letsD ds) ∧ StX ts cs sc x := by
  induction h with
  | nil => exact fun x hx => nomatch hx
  | snoc ds x hc hx ih =>
    intro y hy
    have sub : ∀ z, z ∈ letsD ds → z ∈ letsD (ds ++ [x]) := fun z hz => by rw [letsD_append]; exact List.mem_append_left _ hz
    rcases List.mem_append.mp hy with hy | hy
    · obtain ⟨sc, h1, h2⟩ := ih y hy
      exact ⟨sc, fun z hz => sub z (h1 z hz), h2⟩
    · rw [List.mem_singleton.mp hy]
      exact ⟨_, sub, hx⟩
theorem Tx.m13 {n : Nat} {d : PyData} {l : List Nat} (h : Tx n d l) (e : n ≤ 13) : Tx 13 d l := h.mono e
theorem StX.sx {Z ts cs sc : List Str} (w : Wz Z ts cs) (hs : ∀ z, z ∈ sc → Nm z ∧ z ∈ Z) {x : PyData} (h : StX ts cs sc x) : ∃ l, Sx 13 x l := by
  cases h with
  | let_ z x h1 h2 h3 =>
    obtain ⟨l, hl⟩ := h3.tx (w.nz hs 0)
    exact ⟨_, .let_ z x l h1 (hl.m13 (by decide))⟩
  | need x h3 =>
    obtain ⟨l, hl⟩ := (Cx.op false 5 "<" (.tuple [.str "int", .int (0 - 3)]) x (by decide) (.int false 4 (0 - 3) (by decide) (by decide)) h3).tx (w.nz hs 0)
    exact ⟨_, .one "need" _ l (.inl rfl) (hl.m13 (by decide))⟩
  | tell x h3 =>
    obtain ⟨l, hl⟩ := h3.tx (w.nz hs 0)
    exact ⟨_, .one "tell" x l (.inr rfl) (hl.m13 (by decide))⟩
  | each t z x y h1 h2 h3 h4 =>
    obtain ⟨l, hl⟩ := h3.tx (w.nz hs 2)
    obtain ⟨m, hm⟩ := h4.tx (w.nz hs 2)
    exact ⟨_, .each t z x y l m (w.t t h1).1 (w.c z h2).1 (hl.m13 (by decide)) (hm.m13 (by decide))⟩
  | put t z x y h1 h2 h3 h4 =>
    obtain ⟨l, hl⟩ := h3.tx (w.nz hs 0)
    obtain ⟨m, hm⟩ := h4.tx (w.nz hs 0)
    have hz : Nm z := by
      rcases h2 with h2 | rfl
      · exact (w.c z h2).1
      · exact in_nm
    exact ⟨_, .put t z x y l m (w.t t h1).1 hz (hl.m13 (by decide)) (hm.m13 (by decide))⟩
abbrev rS (ts cs ns : List Str) : List Str := baseS ++ (ts ++ (cs ++ ns))
/-- what a turn's names say -/
structure Nw (ts cs ns : List Str) : Prop where
  t : ∀ z, z ∈ ts → Nm z
  c : ∀ z, z ∈ cs → Nm z
  n : ∀ z, z ∈ ns → Nm z
  lt : ts.length = 2
  lc : cs.length = 3
  ln : ns.length = 3
  nd : ns.Nodup
section
variable {ts cs ns : List Str}
theorem Nw.bs : Bs (rS ts cs ns) 9 (10 ^ 39) := ⟨fun w hw => List.mem_append_left _ hw, by decide, by decide, by decide⟩
theorem Nw.wz (h : Nw ts cs ns) : Wz (rS ts cs ns) ts cs :=
  ⟨fun z hz => ⟨h.t z hz, List.mem_append_right _ (List.mem_append_left _ hz)⟩, fun z hz => ⟨h.c z hz, List.mem_append_right _ (List.mem_append_right _ (List.mem_append_left _ hz))⟩, List.mem_append_left _ (by decide)⟩
theorem Nw.in_ {z : Str} (hz : z ∈ ns) : z ∈ rS ts cs ns := List.mem_append_right _ (List.mem_append_right _ (List.mem_append_right _ hz))
theorem Nw.len (h : Nw ts cs ns) : (rS ts cs ns).length ≤ 60 := by
  rw [List.length_append, List.length_append, List.length_append, h.lt, h.lc, h.ln]
  have : baseS.length = 24 := rfl
  omega
theorem Nw.gd (h : Nw ts cs ns) {ds : List PyData} (hc : Chain ts cs ds) (hl : ds.length ≤ 30) (hn : ∀ z, z ∈ letsD ds → z ∈ ns) : Gd ds (rS ts cs ns) := by
  have hm : ∀ z, z ∈ letsD ds → z ∈ rS ts cs ns := fun z hz => Nw.in_ (hn z hz)
  refine gd_of h.len hl (fun d hd => ((hc.bd Nw.bs h.wz hm) d hd).mono (Nat.le_refl _) (Nat.le_refl _) (by decide)) (fun d hd => ?_) (hc.ok h.wz hm)
  obtain ⟨sc, h1, h2⟩ := hc.mem d hd
  exact h2.sx h.wz fun z hz => ⟨h.n z (hn z (h1 z hz)), hm z (h1 z hz)⟩
/-- the lets of all names -/
def letD (z : Str) (k : Int) : PyData := .tuple [.str "let", .str z, iD k]
def aheadD : List Str → List PyData
  | [a, b, c] => [letD a 0, letD b 1, letD c 2]
  | _ => []
theorem Nw.ahead (h : Nw ts cs ns) : Chain ts cs (aheadD ns) ∧ letsD (aheadD ns) = ns ∧ (aheadD ns).length = 3 ∧ ∀ (i : Nat) (z : Str), ns[i]? = some z → (aheadD ns)[i]? = some (letD z (i : Int)) := by
  have hln := h.ln
  have hnd := h.nd
  have hn := h.n
  match ns, hln, hnd, hn with
  | [a, b, c], _, hnd, hn =>
    have ha := hn a (by simp)
    have hb := hn b (by simp)
    have hc := hn c (by simp)
    simp only [List.nodup_cons, List.mem_cons, List.not_mem_nil, or_false, not_or] at hnd
    have cx : ∀ (k : Int), 0 ≤ k → k ≤ 10 → ∀ sc : List Str, Cx (nmx 0 ts cs) sc false 5 (iD k) := fun k h0 h1 sc => .int false 4 k (by omega) (by omega)
    refine ⟨?_, rfl, rfl, fun i z hi => ?_⟩
    · have c1 : Chain ts cs [letD a 0] := .snoc [] _ .nil (.let_ a _ ha List.not_mem_nil (cx 0 (by decide) (by decide) _))
      have c2 : Chain ts cs [letD a 0, letD b 1] := .snoc [letD a 0] _ c1 (.let_ b _ hb (fun hm => hnd.1.1 (List.mem_singleton.mp (show b ∈ [a] from hm)).symm) (cx 1 (by decide) (by decide) _))
      exact .snoc [letD a 0, letD b 1] _ c2 (.let_ c _ hc (fun hm => by
        have hm : c ∈ [a, b] := hm
        simp only [List.mem_cons, List.not_mem_nil, or_false] at hm
        rcases hm with rfl | rfl
        · exact hnd.1.2 rfl
        · exact hnd.2.1 rfl) (cx 2 (by decide) (by decide) _))
    · match i, hi with
      | 0, hi => cases hi; rfl
      | 1, hi => cases hi; rfl
      | 2, hi => cases hi; rfl
      | i + 3, hi => cases hi
theorem Nw.gd_ahead (h : Nw ts cs ns) {ds : List PyData} (hc : Chain ts cs ds) (hn : ∀ z, z ∈ letsD ds → z ∈ ns) {x : PyData} (hx : x ∈ ds) (hno : letNm x = none) : Gd (aheadD ns ++ [x]) (rS ts cs ns) := by
  obtain ⟨a1, a2, a3, _⟩ := h.ahead
  obtain ⟨sc, h1, h2⟩ := hc.mem x hx
  have hc' : Chain ts cs (aheadD ns ++ [x]) := .snoc _ _ a1 (by rw [a2]; exact h2.widen (fun z hz => hn z (h1 z hz)) hno)
  refine h.gd hc' (by rw [List.length_append, a3]; show 3 + 1 ≤ 30; decide) fun z hz => ?_
  rw [letsD_append, a2] at hz
  rcases List.mem_append.mp hz with hz | hz
  · exact hz
  · unfold letsD at hz
    rw [List.filterMap_cons, hno] at hz
    exact nomatch hz
/-! chains -/
theorem Ch.cx (h : Nw ts cs ns) {n : Nat} {x : PyData} (hc : Ch ts cs n x) : ∀ b, Cx (nmx 0 ts cs) [] b (n + 1) x := by
  have ht : ∀ t, t ∈ ts → t ∈ nmx 0 ts cs ∧ t ≠ "#" := fun t ht => ⟨List.mem_cons_of_mem _ (List.mem_append_left _ ht), fun e => nm_hash (h.t t ht) e⟩
  have hcs : ∀ t, t ∈ cs → t ∈ nmx 0 ts cs ∧ t ≠ "#" := fun t ht => ⟨List.mem_cons_of_mem _ (List.mem_append_right _ (List.mem_append_left _ ht)), fun e => nm_hash (h.c t ht) e⟩
  induction hc with
  | int i h1 h2 => exact fun b => .int b 0 i h1 h2
  | cell n t c x h1 h2 _ ih => exact fun b => .cell b _ t c x (ht t h1) (hcs c h2) (ih b)
  | add n k x h1 h2 _ ih => exact fun b => .op b _ "+" x _ (by decide) (ih b) (.int b n _ (by omega) (by omega))
  | eq n k x h1 h2 _ ih => exact fun b => .op b _ "=" _ x (by decide) (.int b n _ (by omega) (by omega)) (ih b)
  | iff n x _ ih => exact fun b => .iff b _ _ x _ (.int b n _ (by decide) (by decide)) (ih b) (.int b n _ (by decide) (by decide))
  | at_ n k x h1 h2 _ ih => exact fun b => .at_ b _ _ x (.int b n _ (by omega) (by omega)) (ih true)
theorem Ch.bd (h : Nw ts cs ns) {n : Nat} {x : PyData} (hc : Ch ts cs n x) : Bd (rS ts cs ns) 9 (10 ^ 39) (150 * (n + 1)) (10 * (n + 1)) (n + 1) x := by
  have b : Bs (rS ts cs ns) 9 (10 ^ 39) := Nw.bs
  have w := h.wz
  have bi : ∀ (i : Int) (p : Nat), -(10 ^ 18) ≤ i → i ≤ 10 ^ 18 → Bd (rS ts cs ns) 9 (10 ^ 39) 57 3 (p + 1) (iD i) := fun i p h1 h2 =>
    (((b.w (w := "int") (by decide) p).two ((b.i h1 h2 p).two .nil)).tup).mono (by omega) (by omega) (by omega)
  induction hc with
  | int i h1 h2 => exact (bi i 0 h1 h2).mono (by omega) (by omega) (by omega)
  | cell n t c x h1 h2 _ ih => exact (((b.w (w := "cell") (by decide) _).two ((b.n (w.t t h1) _).two (ih.two ((b.n (w.c c h2) _).two .nil)))).tup).mono (by omega) (by omega) (by omega)
  | add n k x h1 h2 _ ih => exact (((b.w (w := "+") (by decide) _).two (ih.two ((bi _ n (by omega) (by omega)).two .nil))).tup).mono (by omega) (by omega) (by omega)
  | eq n k x h1 h2 _ ih => exact (((b.w (w := "=") (by decide) _).two ((bi _ n (by omega) (by omega)).two (ih.two .nil))).tup).mono (by omega) (by omega) (by omega)
  | iff n x _ ih => exact (((b.w (w := "if") (by decide) _).two ((bi 0 n (by decide) (by decide)).two (ih.two ((bi 1 n (by decide) (by decide)).two .nil)))).tup).mono (by omega) (by omega) (by omega)
  | at_ n k x h1 h2 _ ih => exact (((b.w (w := "at") (by decide) _).two ((bi _ n (by omega) (by omega)).two (ih.two .nil))).tup).mono (by omega) (by omega) (by omega)
theorem Ch.gd (h : Nw ts cs ns) {n : Nat} {x : PyData} (hn : n ≤ 12) (hc : Ch ts cs n x) : Gd [.tuple [.str "tell", x]] (rS ts cs ns) := by
  have b : Bs (rS ts cs ns) 9 (10 ^ 39) := Nw.bs
  have w := h.wz
  have hs0 : ∀ z, z ∈ ([] : List Str) → Nm z ∧ z ∈ rS ts cs ns := fun z hz => nomatch hz
  have g := w.nz hs0 0
  have hcx := hc.cx h false
  refine gd_of h.len (by show 1 ≤ 30; decide) (fun d hd => ?_) (fun d hd => ?_) ?_
  · rw [List.mem_singleton.mp hd]
    have hb := hc.bd h
    exact (((b.w (w := "tell") (by decide) _).two (hb.two .nil)).tup).mono (by omega) (by omega) (by omega)
  · rw [List.mem_singleton.mp hd]
    obtain ⟨l, hl⟩ := hcx.tx g
    exact ⟨_, .one "tell" x l (.inr rfl) (hl.m13 (by omega))⟩
  · have e : CxE (nmx 0 ts cs) [] x := ⟨_, _, hcx⟩
    have k1 : fitsS "keyless" x = true := by
      unfold fitsS
      rw [if_neg (by decide), if_neg (by decide), CxE.isx g e, CxE.plain g e, Cx.noKey g _ (Nat.le_refl _) hcx]
      rfl
    have k2 := CxE.vars g e
    have i1 : isSt (.tuple [.str "tell", x]) = true := by
      rw [formS_some (show lookS "tell" = some (["keyless"] : List Str) by decide)]
      show (fitsS "keyless" _ && true) = true
      rw [k1]
      rfl
    have i2 : mayF (.tuple [.str "tell", x]) [] = true := by
      unfold mayF
      rw [kidsS_some (show lookS "tell" = some (["keyless"] : List Str) by decide), letsL_no (by decide)]
      show (!(([] : List Str).any fun z => decide (z ∈ ([] : List Str))) && [_].all (allX (varQ fun z => decide (z ∈ ([] : List Str))))) = true
      rw [List.all_cons, List.all_nil, k2]
      rfl
    rw [goT, i1, i2, goT]
    rfl
end
/-! equal transactions -/
mutual
def pureD : PyData → Bool
  | .tuple ds => pureDs ds
  | .int _ => true
  | .str _ => true
  | _ => false
def pureDs : List PyData → Bool
  | [] => true
  | d :: ds => pureD d && pureDs ds
end
mutual
theorem eqv_pure : ∀ {d e : PyData}, pureD d = true → pureD e = true → PyData.eqv d e = true → d = e
  | .int i, .int j, _, _, h => by
    simp only [PyData.eqv, beq_iff_eq, decide_eq_true_eq] at h
    rw [h]
  | .str i, .str j, _, _, h => by
    simp only [PyData.eqv, beq_iff_eq, decide_eq_true_eq] at h
    rw [h]
  | .tuple ds, .tuple es, h1, h2, h => by
    rw [pureD] at h1 h2
    simp only [PyData.eqv] at h
    rw [eqv_pures h1 h2 h]
  | .int i, .str j, _, _, h => by simp [PyData.eqv] at h
  | .int i, .tuple j, _, _, h => by simp [PyData.eqv] at h
  | .str i, .int j, _, _, h => by simp [PyData.eqv] at h
  | .str i, .tuple j, _, _, h => by simp [PyData.eqv] at h
  | .tuple i, .int j, _, _, h => by simp [PyData.eqv] at h
  | .tuple i, .str j, _, _, h => by simp [PyData.eqv] at h
  | .none, _, h, _, _ => by simp [pureD] at h
  | .bool _, _, h, _, _ => by simp [pureD] at h
  | .list _, _, h, _, _ => by simp [pureD] at h
  | .dict _, _, h, _, _ => by simp [pureD] at h
  | .int _, .none, _, h, _ => by simp [pureD] at h
  | .int _, .bool _, _, h, _ => by simp [pureD] at h
  | .int _, .list _, _, h, _ => by simp [pureD] at h
  | .int _, .dict _, _, h, _ => by simp [pureD] at h
  | .str _, .none, _, h, _ => by simp [pureD] at h
  | .str _, .bool _, _, h, _ => by simp [pureD] at h
  | .str _, .list _, _, h, _ => by simp [pureD] at h
  | .str _, .dict _, _, h, _ => by simp [pureD] at h
  | .tuple _, .none, _, h, _ => by simp [pureD] at h
  | .tuple _, .bool _, _, h, _ => by simp [pureD] at h
  | .tuple _, .list _, _, h, _ => by simp [pureD] at h
  | .tuple _, .dict _, _, h, _ => by simp [pureD] at h
theorem eqv_pures : ∀ {ds es : List PyData}, pureDs ds = true → pureDs es = true → PyData.eqvAll ds es = true → ds = es
  | [], [], _, _, _ => rfl
  | [], _ :: _, _, _, h => by simp [PyData.eqvAll] at h
  | _ :: _, [], _, _, h => by simp [PyData.eqvAll] at h
  | d :: ds, e :: es, h1, h2, h => by
    rw [pureDs, Bool.and_eq_true] at h1 h2
    simp only [PyData.eqvAll, Bool.and_eq_true] at h
    rw [eqv_pure h1.1 h2.1 h.1, eqv_pures h1.2 h2.2 h.2]
end
theorem pureDs_all : ∀ {ds : List PyData}, (∀ d, d ∈ ds → pureD d = true) → pureDs ds = true
  | [], _ => by rw [pureDs]
  | d :: ds, h => by rw [pureDs, h d List.mem_cons_self, pureDs_all fun x hx => h x (List.mem_cons_of_mem _ hx)]; rfl
theorem Tx.pure {n : Nat} {d : PyData} {l : List Nat} (h : Tx n d l) : pureD d = true := by
  induction h with
  | int n i h1 h2 => rfl
  | key n => rfl
  | var n z hz => rfl
  | cell n t v x l h1 h2 _ ih => simp only [pureD, pureDs, ih, Bool.and_self, Bool.and_true]
  | op n o x y l m ho _ _ ih1 ih2 => simp only [pureD, pureDs, ih1, ih2, Bool.and_self, Bool.and_true]
  | call n o xs ls ho hl _ ih =>
    have := pureDs_all (zip_left (P := fun d => pureD d = true) hl ih)
    simp only [pureD, pureDs, this, Bool.and_self]
  | agg n o t xs ls h0 ho ht hl _ ih =>
    have := pureDs_all (zip_left (P := fun d => pureD d = true) hl ih)
    have e : pureD (rowX t) = true := rfl
    simp only [pureD, pureDs, this, e, Bool.and_self]
theorem Sx.pure {n : Nat} {d : PyData} {l : List Nat} (h : Sx n d l) : pureD d = true := by
  cases h with
  | let_ z x l hz hx => simp only [pureD, pureDs, hx.pure, Bool.and_self]
  | one o x l ho hx => simp only [pureD, pureDs, hx.pure, Bool.and_self]
  | put t c k x l m ht hc hk hx => simp only [pureD, pureDs, hk.pure, hx.pure, Bool.and_self]
  | each t c k x l m ht hc hk hx => simp only [pureD, pureDs, hk.pure, hx.pure, Bool.and_self]
/-- the text of a transaction -/
noncomputable def txt (ds : List PyData) : List Nat := rows (ds.map stx)
theorem Gd.same {ds es : List PyData} {Z Y : List Str} (h : Gd ds Z) (h' : Gd es Y) : decide (V.str (S (txt es)) = V.str (S (txt ds))) = PyData.eqv (.tuple es) (.tuple ds) := by
  have pu : ∀ {ds : List PyData} {Z : List Str}, Gd ds Z → pureDs ds = true := fun {ds Z} h => pureDs_all fun d hd => by
    obtain ⟨i, hi, rfl⟩ := List.getElem_of_mem hd
    obtain ⟨l, _, h2, _⟩ := h.tt.at (List.getElem?_eq_getElem hi)
    exact h2.pure
  rw [Bool.eq_iff_iff, decide_eq_true_eq]
  constructor
  · intro e
    injection e with e
    have e2 := S_inj e
    rw [Tt.one h'.tt h.tt e2]
    exact SeqAt.eqv_refl _ (SeqAt.canLay_of_shaped h.shd)
  · intro e
    have := eqv_pure (d := .tuple es) (e := .tuple ds) (by rw [pureD]; exact pu h') (by rw [pureD]; exact pu h) e
    injection this with this
    rw [this]
end L10

set_option maxHeartbeats 8000000
/-! the law -/
namespace L10
open PySem PySem.Spec PyProof.Rows L2 GR AD RZ WX ZE TX RVT
open SX (S S_cat S_len S_inj)
def rEqK (K : PySem.W.Frag) : R2 := fun x y H Q => ∃ (d e : PyData) (ok : Addr → Prop), (∀ a, ok a → a ≠ sysModules) ∧ Dd K ok H x d ∧ Dd K ok H y e ∧ SeqAt.shaped d = true ∧ SeqAt.shaped e = true ∧ Q (.bl (PyData.eqv d e)) H
theorem op_eqK {X : L2.Cx} (hu : X.A.units + 64 < cLine) : OpR X (compareOp .Eq) (rEqK X.K) := op_eqA hu
theorem cut_t1 (vs : List V) : cutV vs none (some 1) = vs.take 1 := by
  unfold cutV
  rw [HT.sIx_none, show (some (1 : Int)) = some ((1 : Nat) : Int) from rfl, HT.sIx_nat, List.drop_zero, Nat.sub_zero]
  cases vs with
  | nil => rfl
  | cons v vs => rw [List.length_cons, show min 1 (vs.length + 1) = 1 by omega]
theorem dd_take' {K : PySem.W.Frag} {ok : Addr → Prop} {H : Hp} : ∀ (i : Nat) {vs : List V} {ds : List PyData}, DdAll K ok H vs ds → DdAll K ok H (vs.take i) (ds.take i)
  | 0, _, _, _ => by rw [List.take_zero, List.take_zero]; exact .nil
  | i + 1, _, _, .nil => .nil
  | i + 1, _, _, .cons h t => .cons h (dd_take' i t)
theorem dp_bls {K : PySem.W.Frag} {H : Hp} : ∀ bs : List Bool, DpAll K H (bs.map V.bl) (bs.map PyData.bool)
  | [] => .nil
  | b :: bs => .cons (.bl b) (dp_bls bs)
theorem lay_bls : ∀ bs : List Bool, PyData.canLayAll0 (bs.map PyData.bool) = true
  | [] => by simp only [List.map_nil, PyData.canLayAll0]
  | n :: ns => by simp only [List.map_cons, PyData.canLayAll0, PyData.canLay0, lay_bls ns, Bool.and_self]
theorem depth_bls : ∀ bs : List Bool, PyData.depthAll (bs.map PyData.bool) ≤ 1
  | [] => by simp only [List.map_nil, PyData.depthAll]; omega
  | n :: ns => by
    have := depth_bls ns
    simp only [List.map_cons, PyData.depthAll, PyData.depth]
    omega
theorem shaped_bls (bs : List Bool) : SeqAt.shaped (.list (bs.map PyData.bool)) = true := by
  have := depth_bls bs
  unfold SeqAt.shaped
  rw [Bool.and_eq_true]
  refine ⟨by simp only [PyData.canLay0, lay_bls], decide_eq_true ?_⟩
  simp only [PyData.depth]
  omega
theorem gd_nil : Gd [] [] := by
  refine ⟨⟨rfl, fun p hp => ?_, by decide, fun l hl => ?_, fun d hd => ?_⟩, fun d hd => ?_, by decide, rfl, ⟨by decide +kernel, by decide +kernel, ?_⟩, by decide +kernel⟩
  · exact nomatch hp
  · exact nomatch hl
  · exact nomatch hd
  · exact nomatch hd
  · exact Nat.le_trans (show (PyData.tuple []).shown.length ≤ 1000 by decide +kernel) (small_le (Nat.le_refl _))
section
variable {P : Program} {w : World} {K : PySem.W.Frag} {mg : Str → Option Value} {base : Heap}
abbrev s_law : Stmt := topS 85
abbrev N_law : List Str := ["_law_script", "_law_deck_here", "_law_told", "_law_turn", "_law_world_here", "_law_most", "_law_deep", "_law_transaction_here", "_law_k", "_law_ahead", "_law_one", "_law_texts", "_law_name", "_law_text_here", "_law_other"]
theorem sc_law : FnScope N_law ["_law_script"] (defScope s_law) := ⟨rfl, rfl, rfl, by decide +kernel, rfl, by decide +kernel, by decide +kernel⟩
def sp_law (K : PySem.W.Frag) : Sp := fun vs H Q _ => ∃ (a : Addr) (ns : List Int), vs = [.ref a] ∧ SqL K H a (ns.map V.int) ∧ ∀ H', Q (.bl true) H'
theorem ok_law {f f_deck f_world f_tran f_chain f_right f_show f_read : Addr} {fd d_deck d_world d_tran d_chain d_right d_show d_read : FuncData} {k : Nat} (F : Fun K "law" "law" s_law f fd)
    (G_deck : FnOk P w K mg base CX0 k f_deck d_deck ["_law_script"] (sp_deck K)) (g_deck : mg "_law_deck" = some (.ref f_deck)) (K_deck : PySem.W.keepIn K (.ref f_deck) = true) (b_deck : Binds K d_deck ["_law_script"] [])
    (G_world : FnOk P w K mg base CX0 k f_world d_world ["_law_deck_here"] sp_world) (g_world : mg "_law_world" = some (.ref f_world)) (K_world : PySem.W.keepIn K (.ref f_world) = true) (b_world : Binds K d_world ["_law_deck_here"] [])
    (G_tran : FnOk P w K mg base CX0 k f_tran d_tran ps_tr (sp_tran K)) (g_tran : mg "_law_transaction" = some (.ref f_tran)) (K_tran : PySem.W.keepIn K (.ref f_tran) = true) (b_tran : Binds K d_tran ps_tr [])
    (G_chain : FnOk P w K mg base CX0 k f_chain d_chain ["_law_deck_here", "_law_world_here"] (sp_chain K)) (g_chain : mg "_law_chain" = some (.ref f_chain)) (K_chain : PySem.W.keepIn K (.ref f_chain) = true) (b_chain : Binds K d_chain ["_law_deck_here", "_law_world_here"] [])
    (G_right : FnG P w K mg base CX0 k f_right d_right ["_law_transaction_here"] (sp_right K)) (g_right : mg "_law_right" = some (.ref f_right)) (K_right : PySem.W.keepIn K (.ref f_right) = true) (b_right : Binds K d_right ["_law_transaction_here"] [])
    (G_show : FnOk P w K mg base CX0 k f_show d_show ["transaction"] (sp_shtr K)) (g_show : mg "show_transaction" = some (.ref f_show)) (K_show : PySem.W.keepIn K (.ref f_show) = true) (b_show : Binds K d_show ["transaction"] [])
    (G_read : FnOk P w K mg base CX0 k f_read d_read ["thing"] (sp_rtr K 13)) (g_read : mg "read_transaction" = some (.ref f_read)) (K_read : PySem.W.keepIn K (.ref f_read) = true) (b_read : Binds K d_read ["thing"] [])
    (mrange : mg "range" = none) (menum : mg "enumerate" = none) (mtuple : mg "tuple" = none) : FnG P w K mg base CX0 (k + 1) f fd ["_law_script"] (sp_law K) := by
  have nd := sc_law.nd
  refine ok_g F sc_law (fun vs H Q E h => ?_) (fun cdv A outer s H vs Q E hg hr h => ?_)
  · obtain ⟨a, ns, rfl, _⟩ := h
    rfl
  obtain ⟨a, ns, rfl, hS, q⟩ := h
  have hu0 := hr.units0
  have hu1 := hu_of hr
  refine ⟨_, (pss_cons (ps_set (i := 1) nd rfl (.inl rfl) (pe_call G_deck hr (by rfl) g_deck K_deck b_deck .nil pass0 (pa_cons (pv 0) pa_nil)))
      (pss_cons (ps_set (i := 2) nd rfl (.inl rfl) (pe_lst pa_nil))
      (Evl.pss_cut (ps_for PassesOwn.never rfl (pi_range1 rfl mrange (pa_cons pe_int pa_nil)) (pg_name (i := 3) nd rfl (Or.inl rfl))
      (pss_cons (ps_set (i := 4) nd rfl (.inl rfl) (pe_call G_world hr (by rfl) g_world K_world b_world .nil pass0 (pa_cons (pv 1) pa_nil)))
        (Evl.pss_cut (ps_asg (pe_ix ix_list (pe_lst (pa_cons (pe_tup (pa_cons pe_int (pa_cons pe_int pa_nil))) (pa_cons (pe_tup (pa_cons pe_int (pa_cons pe_int pa_nil))) (pa_cons (pe_tup (pa_cons pe_int (pa_cons pe_int pa_nil))) (pa_cons (pe_tup (pa_cons pe_int (pa_cons pe_int pa_nil))) pa_nil))))) (pv 3) (fun _ _ => rfl)) (pg_tup rfl (pgs_cons (pg_name (i := 5) nd rfl (Or.inl rfl)) (pgs_cons (pg_name (i := 6) nd rfl (Or.inl rfl)) pgs_nil))))
        (pss_cons (ps_set (i := 7) nd rfl (.inl rfl) (pe_call G_tran hr (by rfl) g_tran K_tran b_tran .nil pass0 (pa_cons (pv 1) (pa_cons (pv 4) (pa_cons (pv 5) (pa_cons (pv 6) pa_nil))))))
        (Evl.pss_cut (ps_if (PW.pt (pw_or (pt_not (pt_val (pe_callG G_right hg hr (by rfl) g_right K_right b_right pass0 (pa_cons (pv 7) pa_nil)))) (pw_or1 (pt_not (pt_val (pe_callG G_right hg hr (by rfl) g_right K_right b_right pass0 (pa_cons (pe_tup (pa_cons (pe_call G_chain hr (by rfl) g_chain K_chain b_chain .nil pass0 (pa_cons (pv 1) (pa_cons (pv 4) pa_nil))) pa_nil)) pa_nil)))))))
        (pss_one (ps_ret pe_bl))
        pss_nil)
        (Evl.pss_cut (ps_set (i := 9) nd rfl (.inr rfl) (pe_callTy call_tuple_of (by rfl) mtuple boot_tuple (pa_cons (pe_lc (own := [("_law_k", 8), ("_law_name", 12)]) (g := gTup K 2 (gCons (gName 8) (gCons (gName 12) gNil))) (tt := tYes) (te := tTup (tCons (tC (.str "let")) (tCons (tVar 12) (tCons (tTup (tCons (tC (.str "int")) (tCons (tVar 8) tNil))) tNil)))) rfl nd (pi_enum (by rfl) menum (pa_cons (pe_dget hu1 (pv 4) pe_str noSl_str) pa_nil)) (blkOk_by (N := N_law) (sc := defScope s_law) (by decide +kernel)) (fun _ _ _ _ _ => (pg_tup rfl (pgs_cons (pg_name (i := 8) (x := "_law_k") nd rfl (Or.inl rfl)) (pgs_cons (pg_name (i := 12) (x := "_law_name") nd rfl (Or.inl rfl)) pgs_nil)))) (fun _ _ _ _ _ => pts_nil) (fun _ _ _ _ _ => (pe_tup (pa_cons pe_str (pa_cons (pv 12) (pa_cons (pe_tup (pa_cons pe_str (pa_cons (pv 8) pa_nil))) pa_nil)))))) pa_nil)))
        (Evl.pss_cut (ps_if (pt_cmpR (op_neL0 hu0) (pe_lc (own := [("_law_one", 10)]) (tt := tAnd (tTest (tOp rNe (tOp (rIxT K) (tVar 10) (tC (.int 0))) (tC (.str "let")))) (tNot (tB (tCall (sp_right K) [] E0 (tCons (tOp (rCatT K) (tVar 9) (tTup (tCons (tVar 10) tNil))) tNil))))) (te := tVar 10) rfl nd (pi_tup (pv 7)) (blkOk_by (N := N_law) (sc := defScope s_law) (by decide +kernel)) (fun _ _ _ _ _ => (pg_name (i := 10) nd rfl (Or.inl rfl))) (fun _ _ _ _ _ => (pts_one (PW.pt (pw_and (pt_cmpR op_ne (pe_ix ix_tup (pv 10) pe_int (fun _ _ => rfl)) pe_str (nomark _)) (pw_and1 (pt_not (pt_val (pe_callG G_right hg hr (by rfl) g_right K_right b_right pass0 (pa_cons (pe_op op_catT (pv 9) (pe_tup (pa_cons (pv 10) pa_nil))) pa_nil))))))))) (fun _ _ _ _ _ => (pv 10))) (pe_lst pa_nil) (nomark _))
        (pss_one (ps_ret pe_bl))
        pss_nil)
        (pss_one (ps_expr (pe_bm PySem.F.plainAttrs_list PySem.F.slot_list_append PySem.F.type_list_append mt_append (pv 2) (pa_cons (pv 7) pa_nil)))))))))))
      (Evl.pss_cut (ps_set (i := 11) nd rfl (.inr rfl) (pe_lc (own := [("_law_one", 10)]) (tt := tYes) (te := tCall (sp_shtr K) [] E0 (tCons (tVar 10) tNil)) rfl nd (pi_list (pe_op op_cat (pv 2) (pe_slice sl_list (pv 2) po_none (po_some pe_int)))) (blkOk_by (N := N_law) (sc := defScope s_law) (by decide +kernel)) (fun _ _ _ _ _ => (pg_name (i := 10) nd rfl (Or.inl rfl))) (fun _ _ _ _ _ => pts_nil) (fun _ _ _ _ _ => (pe_call G_show hr (by rfl) g_show K_show b_show .nil pass0 (pa_cons (pv 10) pa_nil)))))
      (Evl.pss_cut (ps_for PassesOwn.never rfl (pi_enum (by rfl) menum (pa_cons (pv 2) pa_nil)) (pg_tup rfl (pgs_cons (pg_name (i := 8) nd rfl (Or.inr rfl)) (pgs_cons (pg_name (i := 10) nd rfl (Or.inr rfl)) pgs_nil)))
      (pss_one (ps_if (pt_cmpR (op_neD hr.units) (pe_lc (own := [("_law_text_here", 13)]) (tt := tYes) (te := tOp rEq (tVar 13) (tOp (rIxL K) (tVar 11) (tVar 8))) rfl nd (pi_list (pv 11)) (blkOk_by (N := N_law) (sc := defScope s_law) (by decide +kernel)) (fun _ _ _ _ _ => (pg_name (i := 13) nd rfl (Or.inl rfl))) (fun _ _ _ _ _ => pts_nil) (fun _ _ _ _ _ => (pe_cmpR op_eq (pv 13) (pe_ix ix_list (pv 11) (pv 8) (fun _ _ => rfl)) (nomark _)))) (pe_lc (own := [("_law_other", 14)]) (tt := tYes) (te := tOp (rEqK K) (tVar 14) (tVar 10)) rfl nd (pi_list (pe_op op_cat (pv 2) (pe_slice sl_list (pv 2) po_none (po_some pe_int)))) (blkOk_by (N := N_law) (sc := defScope s_law) (by decide +kernel)) (fun _ _ _ _ _ => (pg_name (i := 14) nd rfl (Or.inl rfl))) (fun _ _ _ _ _ => pts_nil) (fun _ _ _ _ _ => (pe_cmpR (op_eqK hr.units) (pv 14) (pv 10) (nomark _)))) (nomark _))
        (pss_one (ps_ret pe_bl))
        pss_nil)))
      (pss_one (ps_ret (pe_and (pe_cmpR op_eq (pe_call G_show hr (by rfl) g_show K_show b_show .nil pass0 (pa_cons (pe_tup pa_nil) pa_nil)) pe_str (nomark _)) (pe_one (pe_cmpR (op_eqK hr.units) (pe_call G_read hr (by rfl) g_read K_read b_read .nil pass0 (pa_cons pe_str pa_nil)) (pe_tup pa_nil) (nomark _))))))))))), ?_⟩
  refine ⟨.ref a, rfl, a, ns, rfl, hS, fun H1 d c s1 n1 D1 => ?_⟩
  refine ⟨Nat.zero_le _, fun T nT => ?_⟩
  have sT := same_upd (o := .lst []) nT
  have hTd := D1.new nT
  have D1' := D1.same sT
  have hT0 : upd H1 T (.lst []) T = some (.lst []) := upd_same
  revert D1' hT0
  generalize upd H1 T (.lst []) = H2
  intro D1' hT0
  clear sT nT D1 s1 n1 hS
  refine ⟨fun σ' H' => ∃ (y3 y4 y5 y6 y7 y9 : Option V) (vs : List V) (es : List (List PyData)), σ' = [some (.ref a), some (.ref d), some (.ref T), y3, y4, y5, y6, y7, none, y9, none, none, none, none, none] ∧ H' T = some (.lst vs) ∧ DdAll K F0 H' vs (es.map PyData.tuple) ∧ (∀ ds, ds ∈ es → ∃ Z, Gd ds Z) ∧ es.length = 4, ?_, ?_⟩
  · refine ⟨4, rfl, by decide, by decide, ?_⟩
    refine for_range (n := 4) (fun i σ H' => ∃ (y3 y4 y5 y6 y7 y9 : Option V) (vs : List V) (es : List (List PyData)), σ = [some (.ref a), some (.ref d), some (.ref T), y3, y4, y5, y6, y7, none, y9, none, none, none, none, none] ∧ Deck H' d c (1000000 * (i : Int)) ∧ H' T = some (.lst vs) ∧ DdAll K F0 H' vs (es.map PyData.tuple) ∧ (∀ ds, ds ∈ es → ∃ Z, Gd ds Z) ∧ es.length = i) ?_ ?_ ?_
    · exact ⟨none, none, none, none, none, none, [], [], rfl, D1'.mono (by omega), hT0, .nil, (fun ds h => nomatch h), rfl⟩
    · rintro i σ H3 hi ⟨y3, y4, y5, y6, y7, y9, vs, es, rfl, D3, hT3, hA3, hG3, hl3⟩
      refine ⟨.ref d, rfl, d, c, _, rfl, D3, by omega, fun H4 u tl cl nl kl ts cs nms ks k4 D4 nu W4 => ?_⟩
      have hT4 := k4 _ _ hTd.1 hTd.2 hT3
      have hA4 := hA3.keep (kf0 (k4.t D3))
      have hnw : Nw ts cs nms := ⟨W4.at', W4.ac, W4.an, W4.lt, W4.lc, W4.ln, W4.nd⟩
      -- how many, how deep
      refine ⟨fun σ' H' => ∃ (many : Nat) (deep : Int), σ' = [some (.ref a), some (.ref d), some (.ref T), some (.int (0 + (i : Int))), some (.ref u), some (.int (many : Int)), some (.int deep), y7, none, y9, none, none, none, none, none] ∧ many ≤ 7 ∧ deep ≤ 3 ∧ Same H4 H', ?_, ?_⟩
      · refine ⟨le2, fun t1 m1 => ⟨le2, fun t2 m2 => ⟨le2, fun t3 m3 => ⟨le2, fun t4 m4 => ⟨small_le (Nat.le_of_ble_eq_true rfl), fun L mL => ⟨.int (0 + (i : Int)), rfl, ?_⟩⟩⟩⟩⟩⟩
        have a1 := same_upd (o := .tup [.int 7, .int 1]) m1
        have a2 := same_upd (o := .tup [.int 5, .int 2]) m2
        have a3 := same_upd (o := .tup [.int 3, .int 2]) m3
        have a4 := same_upd (o := .tup [.int 2, .int 3]) m4
        have aL := same_upd (o := .lst [.ref t1, .ref t2, .ref t3, .ref t4]) mL
        rcases (show i = 0 ∨ i = 1 ∨ i = 2 ∨ i = 3 by omega) with rfl | rfl | rfl | rfl
        · refine ⟨L, [.ref t1, .ref t2, .ref t3, .ref t4], _, .ref t1, rfl, rfl, .inl (.inl upd_same), atI_nat (j := 0) rfl, ?_⟩
          refine ⟨_, _, rfl, .inl (.inl (aL _ _ (a4 _ _ (a3 _ _ (a2 _ _ upd_same))))), rfl, _, _, rfl, _, _, rfl, rfl, 7, 1, rfl, by decide, by decide, a1.trans (a2.trans (a3.trans (a4.trans aL)))⟩
        · refine ⟨L, [.ref t1, .ref t2, .ref t3, .ref t4], _, .ref t2, rfl, rfl, .inl (.inl upd_same), atI_nat (j := 1) rfl, ?_⟩
          refine ⟨_, _, rfl, .inl (.inl (aL _ _ (a4 _ _ (a3 _ _ upd_same)))), rfl, _, _, rfl, _, _, rfl, rfl, 5, 2, rfl, by decide, by decide, a1.trans (a2.trans (a3.trans (a4.trans aL)))⟩
        · refine ⟨L, [.ref t1, .ref t2, .ref t3, .ref t4], _, .ref t3, rfl, rfl, .inl (.inl upd_same), atI_nat (j := 2) rfl, ?_⟩
          refine ⟨_, _, rfl, .inl (.inl (aL _ _ (a4 _ _ upd_same))), rfl, _, _, rfl, _, _, rfl, rfl, 3, 2, rfl, by decide, by decide, a1.trans (a2.trans (a3.trans (a4.trans aL)))⟩
        · refine ⟨L, [.ref t1, .ref t2, .ref t3, .ref t4], _, .ref t4, rfl, rfl, .inl (.inl upd_same), atI_nat (j := 3) rfl, ?_⟩
          refine ⟨_, _, rfl, .inl (.inl (aL _ _ upd_same)), rfl, _, _, rfl, _, _, rfl, rfl, 2, 3, rfl, by decide, by decide, a1.trans (a2.trans (a3.trans (a4.trans aL)))⟩
      rintro σ1 H5 ⟨many, deep, rfl, hmany, hdeep, s5⟩
      have D5 := D4.same s5
      have W5 := W4.keep (Keep.of s5)
      have hT5 := s5 _ _ hT4
      have hA5 := hA4.keep (KeepO.of s5)
      have W : AtW H5 d c u ts cs nms := ⟨tl, cl, nl, kl, ks, W5⟩
      clear hA3 hT3 D3 k4 hT4 hA4 W4 D4
      refine ⟨.ref d, rfl, .ref u, rfl, .int (many : Int), rfl, .int deep, rfl, d, c, u, _, deep, many, ts, cs, nms, rfl, hdeep, hmany, D5, by omega, W, fun H6 p us ds k6 D6 hp hsv hl7 hch hin => ?_⟩
      have hlu := svs_len hsv
      have hdd := svs_dd hsv
      have hgd := hnw.gd hch (by omega) hin
      have hT6 := k6 _ _ hTd.1 hTd.2 hT5
      have hA6 := hA5.keep (kf0 (k6.t D5))
      have W6 := W5.keep k6
      clear hA5 hT5 hsv W
      -- it and a chain are right
      refine ⟨fun σ' H' => σ' = [some (.ref a), some (.ref d), some (.ref T), some (.int (0 + (i : Int))), some (.ref u), some (.int (many : Int)), some (.int deep), some (.ref p), none, y9, none, none, none, none, none] ∧ Keep d c H6 H' ∧ Deck H' d c (1000000 * (i : Int) + 300000), ?_, ?_⟩
      · refine ⟨.ref p, rfl, p, us, ds, _, rfl, .inl (.inl hp), hdd, hgd, fun H7 s7 => ⟨_, rfl, ?_⟩⟩
        refine iteF ⟨.ref d, rfl, .ref u, rfl, d, c, u, _, ts, cs, nms, rfl, D6.same s7, by omega, ⟨tl, cl, nl, kl, ks, W6.keep (Keep.of s7)⟩, fun H8 v x m k8 D8 hm hc hv => ⟨small_le (show 1 ≤ 1000 by decide), fun t nt => ?_⟩⟩
        have st := same_upd (o := .tup [v]) nt
        refine ⟨t, [v], [.tuple [.str "tell", x]], _, rfl, .inl (.inl upd_same), .cons (hv.keep (KeepO.of st)) .nil, hc.gd hnw hm, fun H9 s9 => ⟨_, rfl, iteF ⟨rfl, ?_, ((D8.same st).same s9).mono (by omega)⟩⟩⟩
        exact (((Keep.of s7).trans k8).trans (Keep.of st)).trans (Keep.of s9)
      rintro σ2 H7 ⟨rfl, k7, D7⟩
      have hp7 := k7.tup D6 hp
      have hdd7 := hdd.keep (kf0 (k7.t D6))
      have hT7 := k7 _ _ hTd.1 hTd.2 hT6
      have hA7 := hA6.keep (kf0 (k7.t D6))
      have W7 := W6.keep k7
      clear hA6 hT6 W6 hdd hp k6 k7 D5 D6 W5
      -- the lets ahead
      refine ⟨fun σ' H' => ∃ (t : Addr) (ws : List V), σ' = [some (.ref a), some (.ref d), some (.ref T), some (.int (0 + (i : Int))), some (.ref u), some (.int (many : Int)), some (.int deep), some (.ref p), none, some (.ref t), none, none, none, none, none] ∧ Same H7 H' ∧ H' t = some (.tup ws) ∧ DdAll K F0 H' ws (aheadD nms), ?_, ?_⟩
      · obtain ⟨_, _, al, aat⟩ := hnw.ahead
        refine ⟨.ref u, rfl, u, .ref nl, rfl, ?_, nl, nms.map V.str, rfl, .inl (.inl W7.hn), fun D nD => ?_⟩
        · rw [← wD_n tl cl nl kl]
          exact DGet.k (k := .inr "names") W7.dct
        refine lc_it (walk_enum (xs := nms.map V.str)) (fun j H' => ∃ ws, H' D = some (.lst ws) ∧ DdAll K F0 H' ws ((aheadD nms).take j) ∧ ∀ b o, b ≠ D → H7 b = some o → H' b = some o) ?_ ?_ ?_ ?_
        · exact ⟨[], upd_same, by rw [List.take_zero]; exact .nil, fun b o nb e => by rw [upd_ne nb]; exact e⟩
        · rintro j H' _ ⟨ws, _, _, kk⟩
          exact .inl (.inl (kk _ _ (ne_of_none W7.hn nD) W7.hn))
        · rintro j x H8 H' hj ⟨ws, hD, hW, kk⟩ ⟨T1, x1, y1, rfl, hT1, rfl, hx1, hy1⟩
          obtain rfl : V.int (j : Int) = x1 := Option.some.inj hx1
          replace hy1 : (nms.map V.str)[j]? = some y1 := hy1
          rw [List.getElem?_map] at hy1
          obtain ⟨z, hz, rfl⟩ := Option.map_eq_some_iff.mp hy1
          have sT1 := same_upd (o := .tup [.int (j : Int), .str z]) hT1
          have hlw := hW.len
          rw [List.length_take] at hlw
          refine ⟨_, _, rfl, .inl (.inl upd_same), rfl, _, _, rfl, _, _, rfl, rfl, rfl, yes_then ⟨.str z, rfl, .int (j : Int), rfl, small_le (show 2 ≤ 1000 by decide), fun a1 n1 => ⟨small_le (show 3 ≤ 1000 by decide), fun a2 n2 => ?_⟩⟩⟩
          have q1 := same_upd (o := .tup [.str "int", .int (j : Int)]) n1
          have q2 := same_upd (o := .tup [.str "let", .str z, .ref a1]) n2
          have e2 : Dd K F0 (upd (upd (upd H8 T1 (.tup [.int (j : Int), .str z])) a1 (.tup [.str "int", .int (j : Int)])) a2 (.tup [.str "let", .str z, .ref a1])) (.ref a2) (letD z (j : Int)) :=
            .tup (.inl (.inl upd_same)) (.cons (.str _) (.cons (.str z) (.cons (.tup (.inl (.inl (q2 _ _ upd_same))) (.cons (.str _) (.cons (.int _) .nil))) .nil)))
          have sAll := sT1.trans (q1.trans q2)
          have hD' := sAll _ _ hD
          have hW' := hW.keep (KeepO.of sAll)
          revert e2 sAll hD' hW'
          generalize upd (upd (upd H8 T1 (.tup [.int (j : Int), .str z])) a1 (.tup [.str "int", .int (j : Int)])) a2 (.tup [.str "let", .str z, .ref a1]) = H9
          intro e2 sAll hD' hW'
          have kt : KeepT H9 (upd H9 D (.lst (ws ++ [.ref a2]))) := KeepT.lst hD'
          refine ⟨_, hD', ?_, ws ++ [.ref a2], upd_same, ?_, fun b o nb e => by rw [upd_ne nb]; exact sAll _ _ (kk b o nb e)⟩
          · rw [sizeLine_eq]
            omega
          · rw [take_at (aat j z hz)]
            exact DdAll.app (hW'.keep (kf0 kt)) (.cons (e2.keep (kf0 kt)) .nil)
        · rintro H8 ⟨ws, hD, hW, kk⟩
          refine ⟨D, ws, rfl, .inl ⟨.inl (.inl hD), fun t nt => ?_⟩⟩
          have st := same_upd (o := .tup ws) nt
          have e3 : (nms.map V.str).length = (aheadD nms).length := by rw [List.length_map, hnw.ln, al]
          rw [e3, List.take_length] at hW
          exact ⟨t, ws, rfl, fun b o e => st _ _ (kk b o (ne_of_none e nD) e), upd_same, hW.keep (KeepO.of st)⟩
      rintro σ3 H8 ⟨t, ws, rfl, s8, ht, hW8⟩
      have hp8 := s8 _ _ hp7
      have hdd8 := hdd7.keep (KeepO.of s8)
      have hT8 := s8 _ _ hT7
      have hA8 := hA7.keep (KeepO.of s8)
      have D8 := D7.same s8
      clear hA7 hT7 W7 hdd7 hp7 D7 s8
      -- each alone
      refine ⟨fun σ' H' => σ' = [some (.ref a), some (.ref d), some (.ref T), some (.int (0 + (i : Int))), some (.ref u), some (.int (many : Int)), some (.int deep), some (.ref p), none, some (.ref t), none, none, none, none, none] ∧ Same H8 H', ?_, ?_⟩
      · refine ⟨.ref p, rfl, p, rfl, ⟨us, .inl (.inl hp8)⟩, fun B nB => ?_⟩
        refine walk_bodyT (xs := us) (fun _ H' => H' B = some (.lst []) ∧ ∀ b o, b ≠ B → H8 b = some o → H' b = some o) ?_ ?_ ?_ ?_
        · exact ⟨upd_same, fun b o nb e => by rw [upd_ne nb]; exact e⟩
        · rintro j H' _ ⟨_, kb⟩
          exact .inl (.inl (kb _ _ (ne_of_none hp8 nB) hp8))
        · rintro j y H' hy ⟨hB, kb⟩
          have sB : Same H8 H' := fun b o e => kb b o (ne_of_none e nB) e
          obtain ⟨x, hx, hyx⟩ := dd_at (hdd8.keep (KeepO.of sB)) hy
          obtain ⟨l, _, hsx, _⟩ := hgd.tt.at hx
          obtain ⟨o, ps, ls, rfl, _, _, _⟩ := hsx.parts
          have hyx0 := hyx
          obtain ⟨a', xs', rfl, hS', hA'⟩ := L10.Dd.tup_inv hyx
          rcases hA' with _ | ⟨g1, hA'⟩; cases g1
          refine ⟨rfl, .ref a', rfl, a', _, 0, .str o, rfl, rfl, hS', at0, rfl, _, rfl, ite2 (fun e => ?_) (fun e => iteF ⟨hB, kb⟩)⟩
          have ho : o ≠ "let" := fun h => by
            rw [decide_eq_true (show V.str o = V.str "let" by rw [h])] at e
            cases e
          have hno : letNm (.tuple (.str o :: ps)) = none := letNm_no ho
          have hwl := hW8.len
          obtain ⟨_, _, al, _⟩ := hnw.ahead
          have ht' := sB _ _ ht
          refine ⟨.ref t, rfl, .ref a', rfl, small_le (show 1 ≤ 1000 by decide), fun e0 ne0 => ?_⟩
          have se := same_upd (o := .tup [.ref a']) ne0
          refine ⟨t, e0, ws, [.ref a'], rfl, rfl, .inl (.inl (se _ _ ht')), .inl (.inl upd_same), ?_, ?_, (fun h => nomatch h), fun _ p9 np9 => ?_⟩
          · intro h0
            rw [h0, al] at hwl
            cases hwl
          · rw [hwl, al]
            exact small_le (show 4 ≤ 1000 by decide)
          have sp := same_upd (o := .tup (ws ++ [.ref a'])) np9
          have s99 := se.trans sp
          refine ⟨p9, ws ++ [.ref a'], aheadD nms ++ [.tuple (.str o :: ps)], _, rfl, .inl (.inl upd_same), DdAll.app (hW8.keep (KeepO.of (sB.trans s99))) (.cons (hyx0.keep (KeepO.of s99)) .nil), hnw.gd_ahead hch hin (List.mem_of_getElem? hx) hno, fun H9 s9 => ⟨_, rfl, iteF ⟨s9 _ _ (s99 _ _ hB), fun b o nb e => s9 _ _ (s99 _ _ (kb b o nb e))⟩⟩⟩
        · rintro H9 ⟨hB, kb⟩
          refine ⟨Nat.zero_le _, fun e0 ne0 => ?_⟩
          have se := same_upd (o := .lst []) ne0
          exact ⟨B, e0, [], rfl, rfl, .inl (.inl (se _ _ hB)), .inl (.inl upd_same), _, rfl, iteF ⟨rfl, fun b o e => se _ _ (kb b o (ne_of_none e nB) e)⟩⟩
      rintro σ4 H9 ⟨rfl, s9⟩
      have hT9 := s9 _ _ hT8
      have hA9 := hA8.keep (KeepO.of s9)
      have hdd9 := hdd8.keep (KeepO.of s9)
      have hp9 := s9 _ _ hp8
      have hvl := hA9.len
      rw [List.length_map] at hvl
      have kt : KeepT H9 (upd H9 T (.lst (vs ++ [.ref p]))) := KeepT.lst hT9
      refine ⟨.ref T, rfl, .inl ⟨rfl, _, .inl (.inl hT9)⟩, .ref p, rfl, T, vs, .ref p, rfl, rfl, hT9, small1000 (by omega), _, _, _, _, _, _, vs ++ [.ref p], es ++ [ds], rfl, ((D8.same s9).upd hTd.1 hTd.2).mono (by omega), upd_same, ?_, fun ds' hds => ?_, by rw [List.length_append, hl3]; rfl⟩
      · rw [List.map_append]
        exact DdAll.app (hA9.keep (kf0 kt)) (.cons ((Dd.tup (.inl (.inl hp9)) hdd9).keep (kf0 kt)) .nil)
      · rcases List.mem_append.mp hds with h | h
        · exact hG3 ds' h
        · rw [List.mem_singleton.mp h]
          exact ⟨_, hgd⟩
    · rintro σ H3 ⟨y3, y4, y5, y6, y7, y9, vs, es, rfl, D3, hT3, hA3, hG3, hl3⟩
      exact ⟨_, _, _, _, _, _, vs, es, rfl, hT3, hA3, hG3, hl3⟩
  rintro σ H3 ⟨y3, y4, y5, y6, y7, y9, vs, es, rfl, hT3, hA3, hG3, hl3⟩
  clear D1' hT0
  have hvl : vs.length = 4 := by
    have := hA3.len
    rw [List.length_map] at this
    omega
  -- all, and the first again
  have hG5 : ∀ ds, ds ∈ es ++ es.take 1 → ∃ Z, Gd ds Z := fun ds h => by
    rcases List.mem_append.mp h with h | h
    · exact hG3 ds h
    · exact hG3 ds (List.mem_of_mem_take h)
  have hA5 : ∀ {H' : Hp}, Same H3 H' → DdAll K F0 H' (vs ++ vs.take 1) ((es ++ es.take 1).map PyData.tuple) := fun {H'} s => by
    rw [List.map_append, List.map_take]
    exact DdAll.app (hA3.keep (KeepO.of s)) (dd_take' 1 (hA3.keep (KeepO.of s)))
  have hv5 : (vs ++ vs.take 1).length = 5 := by rw [List.length_append, List.length_take, hvl]; rfl
  have he5 : (es ++ es.take 1).length = 5 := by rw [List.length_append, List.length_take, hl3]; rfl
  generalize hes : es ++ es.take 1 = es5 at hG5 hA5 he5
  refine ⟨fun σ' H' => ∃ X : Addr, σ' = [some (.ref a), some (.ref d), some (.ref T), y3, y4, y5, y6, y7, none, y9, none, some (.ref X), none, none, none] ∧ Same H3 H' ∧ H' X = some (.lst (es5.map fun ds => V.str (S (txt ds)))), ?_, ?_⟩
  · refine ⟨.ref T, rfl, .ref T, rfl, 1, rfl, T, _, rfl, .inl (.inl hT3), fun b nb => ?_⟩
    rw [cut_t1]
    have sb := same_upd (o := .lst (vs.take 1)) nb
    refine ⟨T, b, vs, vs.take 1, rfl, rfl, sb _ _ hT3, upd_same, ?_, fun M nM => ⟨M, rfl, ⟨_, .inl (.inl upd_same)⟩, fun D nD => ?_⟩⟩
    · rw [← List.length_append, hv5]
      exact small_le (by decide)
    have sM := same_upd (o := .lst (vs ++ vs.take 1)) nM
    have hM : upd (upd H3 b (.lst (vs.take 1))) M (.lst (vs ++ vs.take 1)) M = some (.lst (vs ++ vs.take 1)) := upd_same
    have s4 := sb.trans sM
    revert nD hM s4
    generalize upd (upd H3 b (.lst (vs.take 1))) M (.lst (vs ++ vs.take 1)) = H4
    intro nD hM s4
    have hA4 := hA5 s4
    refine walk_body (xs := vs ++ vs.take 1) (fun j H' => H' D = some (.lst ((es5.take j).map fun ds => V.str (S (txt ds)))) ∧ ∀ b o, b ≠ D → H4 b = some o → H' b = some o) ?_ ?_ ?_ ?_
    · exact ⟨upd_same, fun b o nb e => by rw [upd_ne nb]; exact e⟩
    · rintro j H' _ ⟨_, kk⟩
      exact .inl (.inl (kk _ _ (ne_of_none hM nD) hM))
    · rintro j y H' hy ⟨hD, kk⟩
      have s5 : Same H4 H' := fun b o e => kk b o (ne_of_none e nD) e
      obtain ⟨x, hx, hyx⟩ := dd_at (hA4.keep (KeepO.of s5)) hy
      rw [List.getElem?_map] at hx
      obtain ⟨ds, hds, rfl⟩ := Option.map_eq_some_iff.mp hx
      obtain ⟨Z, hgd⟩ := hG5 ds (List.mem_of_getElem? hds)
      obtain ⟨a', us, rfl, hS', hA'⟩ := L10.Dd.tup_inv hyx
      have hj : j < es5.length := (List.getElem?_eq_some_iff.mp hds).1
      refine ⟨rfl, yes_then ⟨.ref a', rfl, a', us, 13, ds, _, rfl, hS', hA', hgd.tt, fun H2' s2 => ⟨_, s2 _ _ hD, ?_, ?_, fun b o nb e => ?_⟩⟩⟩
      · rw [List.length_map, List.length_take, sizeLine_eq]
        omega
      · rw [upd_same, take_at hds, List.map_append]
        rfl
      · rw [upd_ne nb]
        exact s2 _ _ (kk b o nb e)
    · rintro H' ⟨hD, kk⟩
      rw [hv5, ← he5, List.take_length] at hD
      exact ⟨D, rfl, fun b o e => kk b o (ne_of_none (s4 _ _ e) nD) (s4 _ _ e), hD⟩
  rintro σ H4 ⟨X, rfl, s4, hX⟩
  have hT4 := s4 _ _ hT3
  have hA4 := hA3.keep (KeepO.of s4)
  have hA54 : ∀ {H' : Hp}, Same H4 H' → DdAll K F0 H' (vs ++ vs.take 1) (es5.map PyData.tuple) := fun s => hA5 (s4.trans s)
  clear hA3 hA5
  -- equal where they are equal
  refine ⟨fun σ' H' => True, ?_, ?_⟩
  · refine ⟨.ref T, rfl, T, vs, rfl, .inl (.inl hT4), ?_⟩
    refine for_it (walk_enum (xs := vs)) (fun i σ H' => ∃ (y8 y10 : Option V), σ = [some (.ref a), some (.ref d), some (.ref T), y3, y4, y5, y6, y7, y8, y9, y10, some (.ref X), none, none, none] ∧ Same H4 H') ⟨none, none, rfl, fun _ _ e => e⟩ ?_ ?_ ?_
    · rintro i σ H' _ ⟨y8, y10, rfl, s5⟩
      exact .inl (.inl (s5 _ _ hT4))
    · rintro i x σ H5 H' hi ⟨y8, y10, rfl, s5⟩ ⟨T1, xi, one, rfl, hT1, rfl, hxi, hyi⟩
      obtain rfl : V.int (i : Int) = xi := Option.some.inj hxi
      replace hyi : vs[i]? = some one := hyi
      have sT1 := same_upd (o := .tup [.int (i : Int), one]) hT1
      have s6 := s5.trans sT1
      refine ⟨_, _, rfl, .inl (.inl upd_same), rfl, _, _, rfl, _, _, rfl, rfl, ?_⟩
      revert s6
      generalize upd H5 T1 (.tup [.int (i : Int), one]) = H6
      intro s6
      obtain ⟨di, hdi, hone⟩ := dd_at (hA4.keep (KeepO.of s6)) hyi
      rw [List.getElem?_map] at hdi
      obtain ⟨ds, hds, rfl⟩ := Option.map_eq_some_iff.mp hdi
      obtain ⟨Z, hgd⟩ := hG3 ds (List.mem_of_getElem? hds)
      have hds5 : es5[i]? = some ds := by
        rw [← hes, List.getElem?_append_left (List.getElem?_eq_some_iff.mp hds).1]
        exact hds
      have hX6 := s6 _ _ hX
      have hT6 := s6 _ _ hT4
      refine ⟨.ref X, rfl, X, rfl, ⟨_, .inl (.inl hX6)⟩, fun D nD => ?_⟩
      refine walk_body (xs := es5.map fun ds => V.str (S (txt ds))) (fun j H' => H' D = some (.lst ((es5.take j).map fun e => V.bl (PyData.eqv (.tuple e) (.tuple ds)))) ∧ ∀ b o, b ≠ D → H6 b = some o → H' b = some o) ?_ ?_ ?_ ?_
      · exact ⟨upd_same, fun b o nb e => by rw [upd_ne nb]; exact e⟩
      · rintro j H' _ ⟨_, kk⟩
        exact .inl (.inl (kk _ _ (ne_of_none hX6 nD) hX6))
      · rintro j y H' hy ⟨hD, kk⟩
        rw [List.getElem?_map] at hy
        obtain ⟨e, he, rfl⟩ := Option.map_eq_some_iff.mp hy
        obtain ⟨Y, hge⟩ := hG5 e (List.mem_of_getElem? he)
        have hj : j < es5.length := (List.getElem?_eq_some_iff.mp he).1
        refine ⟨rfl, yes_then ⟨.str (S (txt e)), rfl, .ref X, rfl, .int (i : Int), rfl, X, _, (i : Int), .str (S (txt ds)), rfl, rfl, .inl (.inl (kk _ _ (ne_of_none hX6 nD) hX6)), atI_nat (j := i) (by rw [List.getElem?_map, hds5]; rfl), rfl, _, hD, ?_, ?_, fun b o nb e => ?_⟩⟩
        · rw [List.length_map, List.length_take, sizeLine_eq]
          omega
        · rw [upd_same, take_at he, List.map_append, hgd.same hge]
          rfl
        · rw [upd_ne nb]
          exact kk b o nb e
      · rintro H7 ⟨hD7, kk7⟩
        rw [List.length_map, List.take_length] at hD7
        have s7 : Same H6 H7 := fun b o e => kk7 b o (ne_of_none e nD) e
        have hT7 := s7 _ _ hT6
        refine ⟨.ref T, rfl, .ref T, rfl, 1, rfl, T, _, rfl, .inl (.inl hT7), fun b nb => ?_⟩
        rw [cut_t1]
        have sb := same_upd (o := .lst (vs.take 1)) nb
        refine ⟨T, b, vs, vs.take 1, rfl, rfl, sb _ _ hT7, upd_same, ?_, fun M nM => ⟨M, rfl, ⟨_, .inl (.inl upd_same)⟩, fun D2 nD2 => ?_⟩⟩
        · rw [← List.length_append, hv5]
          exact small_le (by decide)
        have sM := same_upd (o := .lst (vs ++ vs.take 1)) nM
        have hM : upd (upd H7 b (.lst (vs.take 1))) M (.lst (vs ++ vs.take 1)) M = some (.lst (vs ++ vs.take 1)) := upd_same
        have s78 := sb.trans sM
        have hD8 := s78 _ _ hD7
        revert nD2 hM s78 hD8
        generalize upd (upd H7 b (.lst (vs.take 1))) M (.lst (vs ++ vs.take 1)) = H8
        intro nD2 hM s78 hD8
        have s8 := (s6.trans s7).trans s78
        have hA8 := hA54 s8
        have hone8 := (hone.keep (KeepO.of s7)).keep (KeepO.of s78)
        refine walk_body (xs := vs ++ vs.take 1) (fun j H' => H' D2 = some (.lst ((es5.take j).map fun e => V.bl (PyData.eqv (.tuple e) (.tuple ds)))) ∧ ∀ b o, b ≠ D2 → H8 b = some o → H' b = some o) ?_ ?_ ?_ ?_
        · exact ⟨upd_same, fun b o nb e => by rw [upd_ne nb]; exact e⟩
        · rintro j H' _ ⟨_, kk⟩
          exact .inl (.inl (kk _ _ (ne_of_none hM nD2) hM))
        · rintro j y H' hy ⟨hD2, kk⟩
          have s9 : Same H8 H' := fun b o e => kk b o (ne_of_none e nD2) e
          obtain ⟨x, hx, hyx⟩ := dd_at (hA8.keep (KeepO.of s9)) hy
          rw [List.getElem?_map] at hx
          obtain ⟨e, he, rfl⟩ := Option.map_eq_some_iff.mp hx
          obtain ⟨Y, hge⟩ := hG5 e (List.mem_of_getElem? he)
          have hj : j < es5.length := (List.getElem?_eq_some_iff.mp he).1
          refine ⟨rfl, yes_then ⟨y, rfl, one, rfl, .tuple e, .tuple ds, F0, fun _ h => h.elim, hyx, hone8.keep (KeepO.of s9), hge.shd, hgd.shd, _, hD2, ?_, ?_, fun b o nb e => ?_⟩⟩
          · rw [List.length_map, List.length_take, sizeLine_eq]
            omega
          · rw [upd_same, take_at he, List.map_append]
            rfl
          · rw [upd_ne nb]
            exact kk b o nb e
        · rintro H9 ⟨hD9, kk9⟩
          rw [hv5, ← he5, List.take_length] at hD9
          have s9 : Same H8 H9 := fun b o e => kk9 b o (ne_of_none e nD2) e
          have hD19 := s9 _ _ hD8
          have eb : (es5.map fun e => V.bl (PyData.eqv (.tuple e) (.tuple ds))) = (es5.map fun e => PyData.eqv (.tuple e) (.tuple ds)).map V.bl := by
            rw [List.map_map]
            rfl
          rw [eb] at hD9 hD19
          generalize (es5.map fun e => PyData.eqv (.tuple e) (.tuple ds)) = bs at hD9 hD19
          refine ⟨.list (bs.map PyData.bool), .list (bs.map PyData.bool), .lst (.inl (.inl hD19)) (dp_bls bs), .lst (.inl (.inl hD9)) (dp_bls bs), shaped_bls bs, shaped_bls bs, _, rfl, ?_⟩
          rw [SeqAt.eqv_refl _ (SeqAt.canLay_of_shaped (shaped_bls bs))]
          exact iteF ⟨_, _, rfl, s8.trans s9⟩
    · rintro σ H5 _
      trivial
  rintro σ H5 _
  refine ⟨small_le (show 0 ≤ 1000 by decide), fun t nt => ?_⟩
  refine ⟨t, [], 13, [], [], rfl, .inl (.inl upd_same), .nil, gd_nil.tt, fun H6 s6 => ⟨rfl, _, rfl, ?_⟩⟩
  rw [decide_eq_true (show V.str (S (rows [])) = V.str "" by decide +kernel)]
  refine iteT ⟨[], [], [], by decide +kernel, gd_nil.tt, gd_nil.zp, gd_nil.zl, gd_nil.go, fun H7 v s7 hv => ⟨small_le (show 0 ≤ 1000 by decide), fun e0 ne0 => ?_⟩⟩
  have se := same_upd (o := .tup []) ne0
  refine ⟨.tuple [], .tuple [], F0, fun _ h => h.elim, hv.keep (KeepO.of se), .tup (.inl (.inl upd_same)) .nil, gd_nil.shd, gd_nil.shd, ?_⟩
  rw [SeqAt.eqv_refl _ (SeqAt.canLay_of_shaped gd_nil.shd)]
  exact q _
end
end L10

namespace L10
open PySem PySem.Spec PyProof.Rows L2 GR WX AD RZ ZE TX RVT
/-- a def of that name stands in the text's top under x -/
def HasA (K : PySem.W.Frag) (x y : Str) (st : Stmt) : Prop := ∃ (f : Addr) (fd : FuncData), PySem.W.nsIn K mainGlobals x = some (some (.ref f)) ∧ Fun K y y st f fd
theorem has_mk {K : PySem.W.Frag} {x y : Str} {st : Stmt} {f : Addr} {oc : Value} {od an : Option Addr} {osl : Array (Option Value)} {kV doc pm cdv ct : Value} (a : PySem.W.nsIn K mainGlobals x = some (some (.ref f)))
    (l : K.lookup f = some ⟨oc, od, .func (PySem.W.fnOf y y (defArgs st) (defBody st) (defScope st) .none kV doc pm an cdv ct), osl⟩) (c : PySem.W.codeIn K cdv y = true) (k : PySem.W.keepIn K (.ref f) = true) : HasA K x y st := ⟨f, _, a, fun_mk l c k⟩
theorem FnG.mono {P : Program} {w : World} {K : PySem.W.Frag} {mg : Str → Option Value} {base : Heap} {CX : CXT} {j k : Nat} {f : Addr} {fd : FuncData} {ps : List Str} {sp : Sp} (F : FnG P w K mg base CX j f fd ps sp) (h : j ≤ k) : FnG P w K mg base CX k f fd ps sp :=
  ⟨F.size, fun A outer s H args us vs Q E hg hr => F.go A outer s H args us vs Q E hg (hr.mono h)⟩
theorem ktx_mk {K : PySem.W.Frag} {p : Addr} {fs : List Str} {d : Option Addr} {its : Array Value} {n : Nat} {sl : Array (Option Value)} (l : K.lookup p = some ⟨.type "tuple", d, .seq its n, sl⟩) (hv : Vals (fs.map V.str) its.toList) (hs : fs.length ≤ 100) : KTx K p fs := fun H =>
  .inr ⟨_, its, n, l, rfl, rfl, by have h1 := hv.length; rw [List.length_map] at h1; have h2 : its.toList.length = its.size := Array.length_toList ..; exact small_le (by omega), hv⟩
/-- a method of that name stands in the class at C -/
def HasM (K : PySem.W.Frag) (C : Addr) (m q : Str) (st : Stmt) : Prop := ∃ (f : Addr) (fd : FuncData), Meth K C m f ∧ Fun K m q st f fd
theorem hasM_mk {K : PySem.W.Frag} {C : Addr} {m q : Str} {st : Stmt} {f : Addr} {oc : Value} {od an : Option Addr} {osl : Array (Option Value)} {kV doc pm cdv ct : Value} (a : PySem.W.findIn K (.ref C) m = some (some (.ref f))) (i : PySem.W.isFn K (.ref f) = true)
    (l : K.lookup f = some ⟨oc, od, .func (PySem.W.fnOf m q (defArgs st) (defBody st) (defScope st) .none kV doc pm an cdv ct), osl⟩) (c : PySem.W.codeIn K cdv q = true) (k : PySem.W.keepIn K (.ref f) = true) : HasM K C m q st := ⟨f, _, ⟨a, i, k⟩, fun_mk l c k⟩
theorem rc_mk {K : PySem.W.Frag} {C : Addr} (pg : PySem.W.plainGet K C Str.empty = true) (hd : PySem.W.hasDictIn K C = true) (po : PySem.W.plainOver K C = true) (sa : PySem.W.findIn K (.ref C) "__setattr__" = some (some (.builtin "object.__setattr__"))) (nT : PySem.W.findIn K (.ref C) "text" = some none) (nP : PySem.W.findIn K (.ref C) "place" = some none) : RC K C := ⟨⟨pg, hd, po, sa⟩, nT, nP⟩
theorem argT_mk {K : PySem.W.Frag} {w : World} {aA : Addr} {es : Array DictEntry} {n : Nat} (l : K.lookup aA = some ⟨.type "dict", none, .dict es n, #[]⟩) (kl : PySem.W.KeysLit w.params es.toList) (low : (aA == sysModules) = false)
    {t1 t2 t3 t4 t5 t6 : Tok} (q1 : PySem.W.nsIn K aA "if" = some (some (.int 3 t1))) (q2 : PySem.W.nsIn K aA "at" = some (some (.int 2 t2))) (q3 : PySem.W.nsIn K aA "count" = some (some (.int 1 t3))) (q4 : PySem.W.nsIn K aA "sum" = some (some (.int 2 t4))) (q5 : PySem.W.nsIn K aA "most" = some (some (.int 3 t5))) (q6 : PySem.W.nsIn K aA "first" = some (some (.int 2 t6))) : ArgT K w aA es n := by
  refine ⟨⟨l, kl, low⟩, fun o c h => ?_⟩
  simp only [argk, List.mem_cons, List.not_mem_nil, or_false, Prod.mk.injEq] at h
  rcases h with ⟨rfl, rfl⟩ | ⟨rfl, rfl⟩ | ⟨rfl, rfl⟩ | ⟨rfl, rfl⟩ | ⟨rfl, rfl⟩ | ⟨rfl, rfl⟩
  · exact ⟨t1, q1⟩
  · exact ⟨t2, q2⟩
  · exact ⟨t3, q3⟩
  · exact ⟨t4, q4⟩
  · exact ⟨t5, q5⟩
  · exact ⟨t6, q6⟩
theorem tab_no {w : World} {es : Array DictEntry} (kl : PySem.W.KeysLit w.params es.toList) (hk : (es.toList.all fun e => table.any fun p => Value.isStrOf p.1 e.key) = true) (wd : Str) (h : look wd = none) : findBy Value.isStrOf es wd = none := by
  have q : (es.find? fun e => Value.isStrOf wd e.key) = none := by
    rw [Array.find?_eq_none]
    intro e he hq
    have he' := Array.mem_toList_iff.mpr he
    obtain ⟨x, t, e1, _⟩ := kl.all e he'
    have h1 := List.all_eq_true.mp hk e he'
    rw [List.any_eq_true] at h1
    obtain ⟨p, hp, h2⟩ := h1
    rw [e1] at hq h2
    have e3 : x = wd := eq_of_beq (show (x == wd) = true from hq)
    have e4 : x = p.1 := eq_of_beq (show (x == p.1) = true from h2)
    unfold look at h
    rw [Option.map_eq_none_iff, List.find?_eq_none] at h
    exact h p hp (decide_eq_true (e4.symm.trans e3))
  show (es.find? fun e => Value.isStrOf wd e.key).map (·.val) = none
  rw [q]
  rfl
theorem flds_mk {K : PySem.W.Frag} {w : World} {fA : Addr} {es : Array DictEntry} {n : Nat} (l : K.lookup fA = some ⟨.type "dict", none, .dict es n, #[]⟩) (kl : PySem.W.KeysLit w.params es.toList) (hk : (es.toList.all fun e => table.any fun p => Value.isStrOf p.1 e.key) = true) (low : (fA == sysModules) = false)
    {p0 : Addr} (q0 : PySem.W.nsIn K fA "int" = some (some (.ref p0))) (r0 : KTx K p0 ["value"])
    {p1 : Addr} (q1 : PySem.W.nsIn K fA "var" = some (some (.ref p1))) (r1 : KTx K p1 ["name"])
    {p2 : Addr} (q2 : PySem.W.nsIn K fA "key" = some (some (.ref p2))) (r2 : KTx K p2 [])
    {p3 : Addr} (q3 : PySem.W.nsIn K fA "let" = some (some (.ref p3))) (r3 : KTx K p3 ["position"])
    {p4 : Addr} (q4 : PySem.W.nsIn K fA "cell" = some (some (.ref p4))) (r4 : KTx K p4 ["name", "free", "name"])
    {p5 : Addr} (q5 : PySem.W.nsIn K fA "+" = some (some (.ref p5))) (r5 : KTx K p5 ["free", "free"])
    {p6 : Addr} (q6 : PySem.W.nsIn K fA "-" = some (some (.ref p6))) (r6 : KTx K p6 ["free", "free"])
    {p7 : Addr} (q7 : PySem.W.nsIn K fA "*" = some (some (.ref p7))) (r7 : KTx K p7 ["free", "free"])
    {p8 : Addr} (q8 : PySem.W.nsIn K fA "<" = some (some (.ref p8))) (r8 : KTx K p8 ["free", "free"])
    {p9 : Addr} (q9 : PySem.W.nsIn K fA "=" = some (some (.ref p9))) (r9 : KTx K p9 ["free", "free"])
    {p10 : Addr} (q10 : PySem.W.nsIn K fA "if" = some (some (.ref p10))) (r10 : KTx K p10 ["free", "free", "free"])
    {p11 : Addr} (q11 : PySem.W.nsIn K fA "at" = some (some (.ref p11))) (r11 : KTx K p11 ["free", "bound"])
    {p12 : Addr} (q12 : PySem.W.nsIn K fA "count" = some (some (.ref p12))) (r12 : KTx K p12 ["name", "extra", "bound", "bound"])
    {p13 : Addr} (q13 : PySem.W.nsIn K fA "sum" = some (some (.ref p13))) (r13 : KTx K p13 ["name", "extra", "bound", "bound", "bound"])
    {p14 : Addr} (q14 : PySem.W.nsIn K fA "most" = some (some (.ref p14))) (r14 : KTx K p14 ["name", "extra", "bound", "bound", "bound", "free"])
    {p15 : Addr} (q15 : PySem.W.nsIn K fA "first" = some (some (.ref p15))) (r15 : KTx K p15 ["name", "extra", "bound", "bound", "free"])
    : Tab K w fA es n ∧ Flds K w fA := by
  have ex : ∀ wd fs, (wd, fs) ∈ table → ∃ p, PySem.W.nsIn K fA wd = some (some (.ref p)) ∧ KTx K p fs := by
    intro wd fs h
    simp only [table, List.mem_cons, List.not_mem_nil, or_false, Prod.mk.injEq] at h
    rcases h with ⟨rfl, rfl⟩ | ⟨rfl, rfl⟩ | ⟨rfl, rfl⟩ | ⟨rfl, rfl⟩ | ⟨rfl, rfl⟩ | ⟨rfl, rfl⟩ | ⟨rfl, rfl⟩ | ⟨rfl, rfl⟩ | ⟨rfl, rfl⟩ | ⟨rfl, rfl⟩ | ⟨rfl, rfl⟩ | ⟨rfl, rfl⟩ | ⟨rfl, rfl⟩ | ⟨rfl, rfl⟩ | ⟨rfl, rfl⟩ | ⟨rfl, rfl⟩
    · exact ⟨p0, q0, r0⟩
    · exact ⟨p1, q1, r1⟩
    · exact ⟨p2, q2, r2⟩
    · exact ⟨p3, q3, r3⟩
    · exact ⟨p4, q4, r4⟩
    · exact ⟨p5, q5, r5⟩
    · exact ⟨p6, q6, r6⟩
    · exact ⟨p7, q7, r7⟩
    · exact ⟨p8, q8, r8⟩
    · exact ⟨p9, q9, r9⟩
    · exact ⟨p10, q10, r10⟩
    · exact ⟨p11, q11, r11⟩
    · exact ⟨p12, q12, r12⟩
    · exact ⟨p13, q13, r13⟩
    · exact ⟨p14, q14, r14⟩
    · exact ⟨p15, q15, r15⟩
  refine ⟨⟨l, kl, low, fun wd fs h => ?_, tab_no kl hk⟩, fun wd fs h => ?_⟩
  · obtain ⟨p, h1, h2⟩ := ex wd fs h
    exact ⟨p, PySem.W.find_K l h1, h2⟩
  · obtain ⟨p, h1, h2⟩ := ex wd fs h
    exact ⟨p, ⟨es, n, _, l, kl, h1, rfl⟩, h2⟩
theorem tabS_no {w : World} {es : Array DictEntry} (kl : PySem.W.KeysLit w.params es.toList) (hk : (es.toList.all fun e => tableS.any fun p => Value.isStrOf p.1 e.key) = true) (wd : Str) (h : lookS wd = none) : findBy Value.isStrOf es wd = none := by
  have q : (es.find? fun e => Value.isStrOf wd e.key) = none := by
    rw [Array.find?_eq_none]
    intro e he hq
    have he' := Array.mem_toList_iff.mpr he
    obtain ⟨x, t, e1, _⟩ := kl.all e he'
    have h1 := List.all_eq_true.mp hk e he'
    rw [List.any_eq_true] at h1
    obtain ⟨p, hp, h2⟩ := h1
    rw [e1] at hq h2
    have e3 : x = wd := eq_of_beq (show (x == wd) = true from hq)
    have e4 : x = p.1 := eq_of_beq (show (x == p.1) = true from h2)
    unfold lookS at h
    rw [Option.map_eq_none_iff, List.find?_eq_none] at h
    exact h p hp (decide_eq_true (e4.symm.trans e3))
  show (es.find? fun e => Value.isStrOf wd e.key).map (·.val) = none
  rw [q]
  rfl
theorem fldsS_mk {K : PySem.W.Frag} {w : World} {fA : Addr} {es : Array DictEntry} {n : Nat} (l : K.lookup fA = some ⟨.type "dict", none, .dict es n, #[]⟩) (kl : PySem.W.KeysLit w.params es.toList) (hk : (es.toList.all fun e => tableS.any fun p => Value.isStrOf p.1 e.key) = true) (low : (fA == sysModules) = false)
    {p0 : Addr} (q0 : PySem.W.nsIn K fA "let" = some (some (.ref p0))) (r0 : KTx K p0 ["name", "keyless"])
    {p1 : Addr} (q1 : PySem.W.nsIn K fA "need" = some (some (.ref p1))) (r1 : KTx K p1 ["keyless"])
    {p2 : Addr} (q2 : PySem.W.nsIn K fA "put" = some (some (.ref p2))) (r2 : KTx K p2 ["name", "keyless", "name", "keyless"])
    {p3 : Addr} (q3 : PySem.W.nsIn K fA "each" = some (some (.ref p3))) (r3 : KTx K p3 ["name", "row", "name", "row"])
    {p4 : Addr} (q4 : PySem.W.nsIn K fA "tell" = some (some (.ref p4))) (r4 : KTx K p4 ["keyless"])
    : TabS K w fA es n ∧ FldsS K w fA := by
  have ex : ∀ wd fs, (wd, fs) ∈ tableS → ∃ p, PySem.W.nsIn K fA wd = some (some (.ref p)) ∧ KTx K p fs := by
    intro wd fs h
    simp only [tableS, List.mem_cons, List.not_mem_nil, or_false, Prod.mk.injEq] at h
    rcases h with ⟨rfl, rfl⟩ | ⟨rfl, rfl⟩ | ⟨rfl, rfl⟩ | ⟨rfl, rfl⟩ | ⟨rfl, rfl⟩
    · exact ⟨p0, q0, r0⟩
    · exact ⟨p1, q1, r1⟩
    · exact ⟨p2, q2, r2⟩
    · exact ⟨p3, q3, r3⟩
    · exact ⟨p4, q4, r4⟩
  refine ⟨⟨l, kl, low, fun wd fs h => ?_, tabS_no kl hk⟩, fun wd fs h => ?_⟩
  · obtain ⟨p, h1, h2⟩ := ex wd fs h
    exact ⟨p, PySem.W.find_K l h1, h2⟩
  · obtain ⟨p, h1, h2⟩ := ex wd fs h
    exact ⟨p, ⟨es, n, _, l, kl, h1, rfl⟩, h2⟩
theorem all_mk {P : Program} {w : World} {K : PySem.W.Frag} {h : Heap} {mg : Str → Option Value} {fa : Addr} (X : K.In h) (G : h.Ns mainGlobals mg) (hfa : mg "law" = some (.ref fa))
    (X_is_integer : HasA K "is_integer" "is_integer" s_is_integer)
    (X_is_value : HasA K "is_value" "is_value" s_is_value)
    (X_is_name : HasA K "is_name" "is_name" s_is_name)
    (X_word_of : HasA K "word_of" "word_of" s_word_of)
    (X_is_expression : HasA K "is_expression" "is_expression" s_is_expression)
    (X_has_form : HasA K "has_form" "has_form" s_has_form)
    (X_fits_expressions : HasA K "fits_expressions" "fits" s_fits)
    (X_contained : HasA K "contained" "contained" s_contained)
    (X_contained_free : HasA K "contained_free" "contained_free" s_contained_free)
    (X_contained_of : HasA K "contained_of" "contained_of" s_contained_of)
    (X_one_deeper : HasA K "one_deeper" "one_deeper" s_one_deeper)
    (X_all_parts : HasA K "all_parts" "all_parts" s_all_parts)
    (X_rows_of : HasA K "rows_of" "rows_of" s_rows_of)
    (X_is_plain : HasA K "is_plain" "is_plain" s_is_plain)
    (X_is_plain_part : HasA K "is_plain_part" "is_plain_part" s_is_plain_part)
    (X_has_free_key : HasA K "has_free_key" "has_free_key" s_has_free_key)
    (X_is_simple : HasA K "is_simple" "is_simple" s_is_simple)
    (X_variables_of : HasA K "variables_of" "variables_of" s_variables_of)
    (X_show_expression : HasA K "show_expression" "show_expression" s_show_expression)
    (X_pieces_of : HasA K "pieces_of" "pieces_of" s_pieces_of)
    (X_with_commas : HasA K "with_commas" "with_commas" s_with_commas)
    (X_take_expression : HasA K "take_expression" "take_expression" s_take_expression)
    (X_take_operation : HasA K "take_operation" "take_operation" s_take_operation)
    (X_take_cell : HasA K "take_cell" "take_cell" s_take_cell)
    (X_take_call : HasA K "take_call" "take_call" s_take_call)
    (X_take_beginning : HasA K "take_beginning" "take_beginning" s_take_beginning)
    (X_take_arguments : HasA K "take_arguments" "take_arguments" s_take_arguments)
    (X_is_statement : HasA K "is_statement" "is_statement" s_is_statement)
    (X_fits_statements : HasA K "fits_statements" "fits" s_fits2)
    (X_may_follow : HasA K "may_follow" "may_follow" s_may_follow)
    (X_names_let : HasA K "names_let" "names_let" s_names_let)
    (X_names_used : HasA K "names_used" "names_used" s_names_used)
    (X_expressions_in : HasA K "expressions_in" "expressions_in" s_expressions_in)
    (X_show_transaction : HasA K "show_transaction" "show_transaction" s_show_transaction)
    (X_show_statement : HasA K "show_statement" "show_statement" s_show_statement)
    (X_read_transaction : HasA K "read_transaction" "read_transaction" s_read_transaction)
    (X_lines_of : HasA K "lines_of" "lines_of" s_lines_of)
    (X_read_statement : HasA K "read_statement" "read_statement" s_read_statement)
    (X_take_statement : HasA K "take_statement" "take_statement" s_take_statement)
    (X_take_let : HasA K "take_let" "take_let" s_take_let)
    (X_take_put : HasA K "take_put" "take_put" s_take_put)
    (X_take_each : HasA K "take_each" "take_each" s_take_each)
    (X_law_deck : HasA K "_law_deck" "_law_deck" s_law_deck)
    (X_law_draw : HasA K "_law_draw" "_law_draw" s_law_draw)
    (X_law_pick : HasA K "_law_pick" "_law_pick" s_law_pick)
    (X_law_names : HasA K "_law_names" "_law_names" s_law_names)
    (X_law_world : HasA K "_law_world" "_law_world" s_law_world)
    (X_law_integer : HasA K "_law_integer" "_law_integer" s_law_integer)
    (X_law_cell : HasA K "_law_cell" "_law_cell" s_law_cell)
    (X_law_leaf : HasA K "_law_leaf" "_law_leaf" s_law_leaf)
    (X_law_aggregate : HasA K "_law_aggregate" "_law_aggregate" s_law_aggregate)
    (X_law_expression : HasA K "_law_expression" "_law_expression" s_law_expression)
    (X_law_statement : HasA K "_law_statement" "_law_statement" s_law_statement)
    (X_law_transaction : HasA K "_law_transaction" "_law_transaction" s_law_transaction)
    (X_law_text : HasA K "_law_text" "_law_text" s_law_text)
    (X_law_row : HasA K "_law_row" "_law_row" s_law_row)
    (X_law_chain : HasA K "_law_chain" "_law_chain" s_law_chain)
    (X_law_right : HasA K "_law_right" "_law_right" s_law_right)
    (X_law : HasA K "law" "law" s_law)
    (z_list : PySem.W.nsIn K mainGlobals "list" = some none) (z_sum : PySem.W.nsIn K mainGlobals "sum" = some none) (z_len : PySem.W.nsIn K mainGlobals "len" = some none) (z_range : PySem.W.nsIn K mainGlobals "range" = some none) (z_int : PySem.W.nsIn K mainGlobals "int" = some none) (z_bool : PySem.W.nsIn K mainGlobals "bool" = some none) (z_repr : PySem.W.nsIn K mainGlobals "repr" = some none) (z_tuple : PySem.W.nsIn K mainGlobals "tuple" = some none) (z_str : PySem.W.nsIn K mainGlobals "str" = some none) (z_isinstance : PySem.W.nsIn K mainGlobals "isinstance" = some none) (z_all : PySem.W.nsIn K mainGlobals "all" = some none) (z_any : PySem.W.nsIn K mainGlobals "any" = some none) (z_zip : PySem.W.nsIn K mainGlobals "zip" = some none) (z_sorted : PySem.W.nsIn K mainGlobals "sorted" = some none) (z_min : PySem.W.nsIn K mainGlobals "min" = some none) (z_max : PySem.W.nsIn K mainGlobals "max" = some none) (z_enumerate : PySem.W.nsIn K mainGlobals "enumerate" = some none)
    {tk_LIMIT : Tok} (c_LIMIT : PySem.W.nsIn K mainGlobals "LIMIT" = some (some (.int LIM tk_LIMIT))) {tk_LONGEST_NAME : Tok} (c_LONGEST_NAME : PySem.W.nsIn K mainGlobals "LONGEST_NAME" = some (some (.int 8 tk_LONGEST_NAME))) {tk_LONGEST_VALUE : Tok} (c_LONGEST_VALUE : PySem.W.nsIn K mainGlobals "LONGEST_VALUE" = some (some (.int 20 tk_LONGEST_VALUE))) {tk_DEEPEST : Tok} (c_DEEPEST : PySem.W.nsIn K mainGlobals "DEEPEST" = some (some (.int 30 tk_DEEPEST))) {tk_DEPTH_OF_ROWS : Tok} (c_DEPTH_OF_ROWS : PySem.W.nsIn K mainGlobals "DEPTH_OF_ROWS" = some (some (.int 2 tk_DEPTH_OF_ROWS)))
    {fA : Addr} {es : Array DictEntry} {nF : Nat} (z_FIELDS : PySem.W.nsIn K mainGlobals "FIELDS_expressions" = some (some (.ref fA))) (T_FIELDS : Tab K w fA es nF ∧ Flds K w fA)
    {fB : Addr} {es2 : Array DictEntry} {nF2 : Nat} (z_FIELDS2 : PySem.W.nsIn K mainGlobals "FIELDS_statements" = some (some (.ref fB))) (T_FIELDS2 : TabS K w fB es2 nF2 ∧ FldsS K w fB)
    {aA : Addr} (z_ALL : PySem.W.nsIn K mainGlobals "ALL_PARTS" = some (some (.ref aA))) (T_ALL : KTx K aA W2) {aW : Addr} (z_WORDS : PySem.W.nsIn K mainGlobals "WORDS" = some (some (.ref aW))) (T_WORDS : KTx K aW BARW) {aG : Addr} (z_AGG : PySem.W.nsIn K mainGlobals "AGGREGATES" = some (some (.ref aG))) (T_AGG : KTx K aG aggW) {tk_LET : Tok} (z_LETTERS : PySem.W.nsIn K mainGlobals "LETTERS" = some (some (.str L26 tk_LET)))
    {tk_DIG : Tok} (z_DIGITS : PySem.W.nsIn K mainGlobals "DIGITS" = some (some (.str DG tk_DIG))) {aOP : Addr} (z_OPER : PySem.W.nsIn K mainGlobals "OPERATIONS" = some (some (.ref aOP))) (T_OPER : KTx K aOP ops5)
    {aAR : Addr} {es3 : Array DictEntry} {nF3 : Nat} (z_ARGS : PySem.W.nsIn K mainGlobals "ARGUMENTS" = some (some (.ref aAR))) (T_ARGS : ArgT K w aAR es3 nF3)
    {C_R : Addr} (a_R : PySem.W.nsIn K mainGlobals "Reader" = some (some (.ref C_R))) (T_R : RC K C_R) (mk_R : PySem.W.makesIn K C_R = true) (kc_R : PySem.W.keepIn K (.ref C_R) = true)
    (Y_Minit : HasM K C_R "__init__" "Reader.__init__" s_init)
    (Y_Mis_next : HasM K C_R "is_next" "Reader.is_next" s_is_next)
    (Y_Mis_any_next : HasM K C_R "is_any_next" "Reader.is_any_next" s_is_any_next)
    (Y_Mtake : HasM K C_R "take" "Reader.take" s_take)
    (Y_Mtake_any : HasM K C_R "take_any" "Reader.take_any" s_take_any)
    (Y_Mtake_while : HasM K C_R "take_while" "Reader.take_while" s_take_while)
    (Y_Mtake_word : HasM K C_R "take_word" "Reader.take_word" s_take_word)
    (Y_Mtake_name : HasM K C_R "take_name" "Reader.take_name" s_take_name)
    (Y_Mtake_value : HasM K C_R "take_value" "Reader.take_value" s_take_value)
    (Y_Mtake_end : HasM K C_R "take_end" "Reader.take_end" s_take_end)
    : ∃ fd : FuncData, (∀ (s : Shared) (v : Value), BindsTo s fd ⟨[v], []⟩ [("_law_script", v)]) ∧ ∀ base : Heap, K.In base → base.Ns mainGlobals mg → FnG P w K mg base CX0 50 fa fd ["_law_script"] (sp_law K) := by
  obtain ⟨fis_integer, dis_integer, ais_integer, Fis_integer⟩ := X_is_integer
  have gis_integer := PySem.W.mg_of X G ais_integer
  have bis_integer : Binds K dis_integer ["thing"] [] := Fis_integer.binds (ps := ["thing"]) fun _ _ _ _ _ _ us hl => match us, hl with | [_], _ => rfl
  obtain ⟨fis_value, dis_value, ais_value, Fis_value⟩ := X_is_value
  have gis_value := PySem.W.mg_of X G ais_value
  have bis_value : Binds K dis_value ["thing"] [] := Fis_value.binds (ps := ["thing"]) fun _ _ _ _ _ _ us hl => match us, hl with | [_], _ => rfl
  obtain ⟨fis_name, dis_name, ais_name, Fis_name⟩ := X_is_name
  have gis_name := PySem.W.mg_of X G ais_name
  have bis_name : Binds K dis_name ["thing"] [] := Fis_name.binds (ps := ["thing"]) fun _ _ _ _ _ _ us hl => match us, hl with | [_], _ => rfl
  obtain ⟨fword_of, dword_of, aword_of, Fword_of⟩ := X_word_of
  have gword_of := PySem.W.mg_of X G aword_of
  have bword_of : Binds K dword_of ["thing"] [] := Fword_of.binds (ps := ["thing"]) fun _ _ _ _ _ _ us hl => match us, hl with | [_], _ => rfl
  obtain ⟨fis_expression, dis_expression, ais_expression, Fis_expression⟩ := X_is_expression
  have gis_expression := PySem.W.mg_of X G ais_expression
  have bis_expression : Binds K dis_expression ["thing"] [] := Fis_expression.binds (ps := ["thing"]) fun _ _ _ _ _ _ us hl => match us, hl with | [_], _ => rfl
  obtain ⟨fhas_form, dhas_form, ahas_form, Fhas_form⟩ := X_has_form
  have ghas_form := PySem.W.mg_of X G ahas_form
  have bhas_form : Binds K dhas_form ["thing"] [] := Fhas_form.binds (ps := ["thing"]) fun _ _ _ _ _ _ us hl => match us, hl with | [_], _ => rfl
  obtain ⟨ffits_expressions, dfits_expressions, afits_expressions, Ffits_expressions⟩ := X_fits_expressions
  have gfits_expressions := PySem.W.mg_of X G afits_expressions
  have bfits_expressions : Binds K dfits_expressions ["kind", "part"] [] := Ffits_expressions.binds (ps := ["kind", "part"]) fun _ _ _ _ _ _ us hl => match us, hl with | [_, _], _ => rfl
  obtain ⟨fcontained, dcontained, acontained, Fcontained⟩ := X_contained
  have gcontained := PySem.W.mg_of X G acontained
  have bcontained : Binds K dcontained ["expression"] [] := Fcontained.binds (ps := ["expression"]) fun _ _ _ _ _ _ us hl => match us, hl with | [_], _ => rfl
  obtain ⟨fcontained_free, dcontained_free, acontained_free, Fcontained_free⟩ := X_contained_free
  have gcontained_free := PySem.W.mg_of X G acontained_free
  have bcontained_free : Binds K dcontained_free ["expression"] [] := Fcontained_free.binds (ps := ["expression"]) fun _ _ _ _ _ _ us hl => match us, hl with | [_], _ => rfl
  obtain ⟨fcontained_of, dcontained_of, acontained_of, Fcontained_of⟩ := X_contained_of
  have gcontained_of := PySem.W.mg_of X G acontained_of
  have bcontained_of : Binds K dcontained_of ["expression", "wanted"] [] := Fcontained_of.binds (ps := ["expression", "wanted"]) fun _ _ _ _ _ _ us hl => match us, hl with | [_, _], _ => rfl
  obtain ⟨fone_deeper, done_deeper, aone_deeper, Fone_deeper⟩ := X_one_deeper
  have gone_deeper := PySem.W.mg_of X G aone_deeper
  have bone_deeper : Binds K done_deeper ["expressions"] [] := Fone_deeper.binds (ps := ["expressions"]) fun _ _ _ _ _ _ us hl => match us, hl with | [_], _ => rfl
  obtain ⟨fall_parts, dall_parts, aall_parts, Fall_parts⟩ := X_all_parts
  have gall_parts := PySem.W.mg_of X G aall_parts
  have ball_parts : Binds K dall_parts ["expression"] [] := Fall_parts.binds (ps := ["expression"]) fun _ _ _ _ _ _ us hl => match us, hl with | [_], _ => rfl
  obtain ⟨frows_of, drows_of, arows_of, Frows_of⟩ := X_rows_of
  have grows_of := PySem.W.mg_of X G arows_of
  have brows_of : Binds K drows_of ["table"] [] := Frows_of.binds (ps := ["table"]) fun _ _ _ _ _ _ us hl => match us, hl with | [_], _ => rfl
  obtain ⟨fis_plain, dis_plain, ais_plain, Fis_plain⟩ := X_is_plain
  have gis_plain := PySem.W.mg_of X G ais_plain
  have bis_plain : Binds K dis_plain ["expression"] [] := Fis_plain.binds (ps := ["expression"]) fun _ _ _ _ _ _ us hl => match us, hl with | [_], _ => rfl
  obtain ⟨fis_plain_part, dis_plain_part, ais_plain_part, Fis_plain_part⟩ := X_is_plain_part
  have gis_plain_part := PySem.W.mg_of X G ais_plain_part
  have bis_plain_part : Binds K dis_plain_part ["part"] [] := Fis_plain_part.binds (ps := ["part"]) fun _ _ _ _ _ _ us hl => match us, hl with | [_], _ => rfl
  obtain ⟨fhas_free_key, dhas_free_key, ahas_free_key, Fhas_free_key⟩ := X_has_free_key
  have ghas_free_key := PySem.W.mg_of X G ahas_free_key
  have bhas_free_key : Binds K dhas_free_key ["expression"] [] := Fhas_free_key.binds (ps := ["expression"]) fun _ _ _ _ _ _ us hl => match us, hl with | [_], _ => rfl
  obtain ⟨fis_simple, dis_simple, ais_simple, Fis_simple⟩ := X_is_simple
  have gis_simple := PySem.W.mg_of X G ais_simple
  have bis_simple : Binds K dis_simple ["expression"] [] := Fis_simple.binds (ps := ["expression"]) fun _ _ _ _ _ _ us hl => match us, hl with | [_], _ => rfl
  obtain ⟨fvariables_of, dvariables_of, avariables_of, Fvariables_of⟩ := X_variables_of
  have gvariables_of := PySem.W.mg_of X G avariables_of
  have bvariables_of : Binds K dvariables_of ["expression"] [] := Fvariables_of.binds (ps := ["expression"]) fun _ _ _ _ _ _ us hl => match us, hl with | [_], _ => rfl
  obtain ⟨fshow_expression, dshow_expression, ashow_expression, Fshow_expression⟩ := X_show_expression
  have gshow_expression := PySem.W.mg_of X G ashow_expression
  have bshow_expression : Binds K dshow_expression ["expression"] [] := Fshow_expression.binds (ps := ["expression"]) fun _ _ _ _ _ _ us hl => match us, hl with | [_], _ => rfl
  obtain ⟨fpieces_of, dpieces_of, apieces_of, Fpieces_of⟩ := X_pieces_of
  have gpieces_of := PySem.W.mg_of X G apieces_of
  have bpieces_of : Binds K dpieces_of ["expression"] [] := Fpieces_of.binds (ps := ["expression"]) fun _ _ _ _ _ _ us hl => match us, hl with | [_], _ => rfl
  obtain ⟨fwith_commas, dwith_commas, awith_commas, Fwith_commas⟩ := X_with_commas
  have gwith_commas := PySem.W.mg_of X G awith_commas
  have bwith_commas : Binds K dwith_commas ["pieces"] [] := Fwith_commas.binds (ps := ["pieces"]) fun _ _ _ _ _ _ us hl => match us, hl with | [_], _ => rfl
  obtain ⟨ftake_expression, dtake_expression, atake_expression, Ftake_expression⟩ := X_take_expression
  have gtake_expression := PySem.W.mg_of X G atake_expression
  have btake_expression : Binds K dtake_expression ["reader", "room"] [] := Ftake_expression.binds (ps := ["reader", "room"]) fun _ _ _ _ _ _ us hl => match us, hl with | [_, _], _ => rfl
  obtain ⟨ftake_operation, dtake_operation, atake_operation, Ftake_operation⟩ := X_take_operation
  have gtake_operation := PySem.W.mg_of X G atake_operation
  have btake_operation : Binds K dtake_operation ["reader", "room"] [] := Ftake_operation.binds (ps := ["reader", "room"]) fun _ _ _ _ _ _ us hl => match us, hl with | [_, _], _ => rfl
  obtain ⟨ftake_cell, dtake_cell, atake_cell, Ftake_cell⟩ := X_take_cell
  have gtake_cell := PySem.W.mg_of X G atake_cell
  have btake_cell : Binds K dtake_cell ["reader", "table", "room"] [] := Ftake_cell.binds (ps := ["reader", "table", "room"]) fun _ _ _ _ _ _ us hl => match us, hl with | [_, _, _], _ => rfl
  obtain ⟨ftake_call, dtake_call, atake_call, Ftake_call⟩ := X_take_call
  have gtake_call := PySem.W.mg_of X G atake_call
  have btake_call : Binds K dtake_call ["reader", "word", "room"] [] := Ftake_call.binds (ps := ["reader", "word", "room"]) fun _ _ _ _ _ _ us hl => match us, hl with | [_, _, _], _ => rfl
  obtain ⟨ftake_beginning, dtake_beginning, atake_beginning, Ftake_beginning⟩ := X_take_beginning
  have gtake_beginning := PySem.W.mg_of X G atake_beginning
  have btake_beginning : Binds K dtake_beginning ["reader", "word", "room"] [] := Ftake_beginning.binds (ps := ["reader", "word", "room"]) fun _ _ _ _ _ _ us hl => match us, hl with | [_, _, _], _ => rfl
  obtain ⟨ftake_arguments, dtake_arguments, atake_arguments, Ftake_arguments⟩ := X_take_arguments
  have gtake_arguments := PySem.W.mg_of X G atake_arguments
  have btake_arguments : Binds K dtake_arguments ["reader", "many", "room"] [] := Ftake_arguments.binds (ps := ["reader", "many", "room"]) fun _ _ _ _ _ _ us hl => match us, hl with | [_, _, _], _ => rfl
  obtain ⟨fis_statement, dis_statement, ais_statement, Fis_statement⟩ := X_is_statement
  have gis_statement := PySem.W.mg_of X G ais_statement
  have bis_statement : Binds K dis_statement ["thing"] [] := Fis_statement.binds (ps := ["thing"]) fun _ _ _ _ _ _ us hl => match us, hl with | [_], _ => rfl
  obtain ⟨ffits_statements, dfits_statements, afits_statements, Ffits_statements⟩ := X_fits_statements
  have gfits_statements := PySem.W.mg_of X G afits_statements
  have bfits_statements : Binds K dfits_statements ["kind", "part"] [] := Ffits_statements.binds (ps := ["kind", "part"]) fun _ _ _ _ _ _ us hl => match us, hl with | [_, _], _ => rfl
  obtain ⟨fmay_follow, dmay_follow, amay_follow, Fmay_follow⟩ := X_may_follow
  have gmay_follow := PySem.W.mg_of X G amay_follow
  have bmay_follow : Binds K dmay_follow ["statement", "known"] [] := Fmay_follow.binds (ps := ["statement", "known"]) fun _ _ _ _ _ _ us hl => match us, hl with | [_, _], _ => rfl
  obtain ⟨fnames_let, dnames_let, anames_let, Fnames_let⟩ := X_names_let
  have gnames_let := PySem.W.mg_of X G anames_let
  have bnames_let : Binds K dnames_let ["statement"] [] := Fnames_let.binds (ps := ["statement"]) fun _ _ _ _ _ _ us hl => match us, hl with | [_], _ => rfl
  obtain ⟨fnames_used, dnames_used, anames_used, Fnames_used⟩ := X_names_used
  have gnames_used := PySem.W.mg_of X G anames_used
  have bnames_used : Binds K dnames_used ["statement"] [] := Fnames_used.binds (ps := ["statement"]) fun _ _ _ _ _ _ us hl => match us, hl with | [_], _ => rfl
  obtain ⟨fexpressions_in, dexpressions_in, aexpressions_in, Fexpressions_in⟩ := X_expressions_in
  have gexpressions_in := PySem.W.mg_of X G aexpressions_in
  have bexpressions_in : Binds K dexpressions_in ["statement"] [] := Fexpressions_in.binds (ps := ["statement"]) fun _ _ _ _ _ _ us hl => match us, hl with | [_], _ => rfl
  obtain ⟨fshow_transaction, dshow_transaction, ashow_transaction, Fshow_transaction⟩ := X_show_transaction
  have gshow_transaction := PySem.W.mg_of X G ashow_transaction
  have bshow_transaction : Binds K dshow_transaction ["transaction"] [] := Fshow_transaction.binds (ps := ["transaction"]) fun _ _ _ _ _ _ us hl => match us, hl with | [_], _ => rfl
  obtain ⟨fshow_statement, dshow_statement, ashow_statement, Fshow_statement⟩ := X_show_statement
  have gshow_statement := PySem.W.mg_of X G ashow_statement
  have bshow_statement : Binds K dshow_statement ["statement"] [] := Fshow_statement.binds (ps := ["statement"]) fun _ _ _ _ _ _ us hl => match us, hl with | [_], _ => rfl
  obtain ⟨fread_transaction, dread_transaction, aread_transaction, Fread_transaction⟩ := X_read_transaction
  have gread_transaction := PySem.W.mg_of X G aread_transaction
  have bread_transaction : Binds K dread_transaction ["thing"] [] := Fread_transaction.binds (ps := ["thing"]) fun _ _ _ _ _ _ us hl => match us, hl with | [_], _ => rfl
  obtain ⟨flines_of, dlines_of, alines_of, Flines_of⟩ := X_lines_of
  have glines_of := PySem.W.mg_of X G alines_of
  have blines_of : Binds K dlines_of ["text"] [] := Flines_of.binds (ps := ["text"]) fun _ _ _ _ _ _ us hl => match us, hl with | [_], _ => rfl
  obtain ⟨fread_statement, dread_statement, aread_statement, Fread_statement⟩ := X_read_statement
  have gread_statement := PySem.W.mg_of X G aread_statement
  have bread_statement : Binds K dread_statement ["line"] [] := Fread_statement.binds (ps := ["line"]) fun _ _ _ _ _ _ us hl => match us, hl with | [_], _ => rfl
  obtain ⟨ftake_statement, dtake_statement, atake_statement, Ftake_statement⟩ := X_take_statement
  have gtake_statement := PySem.W.mg_of X G atake_statement
  have btake_statement : Binds K dtake_statement ["reader"] [] := Ftake_statement.binds (ps := ["reader"]) fun _ _ _ _ _ _ us hl => match us, hl with | [_], _ => rfl
  obtain ⟨ftake_let, dtake_let, atake_let, Ftake_let⟩ := X_take_let
  have gtake_let := PySem.W.mg_of X G atake_let
  have btake_let : Binds K dtake_let ["reader"] [] := Ftake_let.binds (ps := ["reader"]) fun _ _ _ _ _ _ us hl => match us, hl with | [_], _ => rfl
  obtain ⟨ftake_put, dtake_put, atake_put, Ftake_put⟩ := X_take_put
  have gtake_put := PySem.W.mg_of X G atake_put
  have btake_put : Binds K dtake_put ["reader"] [] := Ftake_put.binds (ps := ["reader"]) fun _ _ _ _ _ _ us hl => match us, hl with | [_], _ => rfl
  obtain ⟨ftake_each, dtake_each, atake_each, Ftake_each⟩ := X_take_each
  have gtake_each := PySem.W.mg_of X G atake_each
  have btake_each : Binds K dtake_each ["reader"] [] := Ftake_each.binds (ps := ["reader"]) fun _ _ _ _ _ _ us hl => match us, hl with | [_], _ => rfl
  obtain ⟨f_law_deck, d_law_deck, a_law_deck, F_law_deck⟩ := X_law_deck
  have g_law_deck := PySem.W.mg_of X G a_law_deck
  have b_law_deck : Binds K d_law_deck ["_law_script"] [] := F_law_deck.binds (ps := ["_law_script"]) fun _ _ _ _ _ _ us hl => match us, hl with | [_], _ => rfl
  obtain ⟨f_law_draw, d_law_draw, a_law_draw, F_law_draw⟩ := X_law_draw
  have g_law_draw := PySem.W.mg_of X G a_law_draw
  have b_law_draw : Binds K d_law_draw ["_law_deck_here", "_law_most"] [] := F_law_draw.binds (ps := ["_law_deck_here", "_law_most"]) fun _ _ _ _ _ _ us hl => match us, hl with | [_, _], _ => rfl
  obtain ⟨f_law_pick, d_law_pick, a_law_pick, F_law_pick⟩ := X_law_pick
  have g_law_pick := PySem.W.mg_of X G a_law_pick
  have b_law_pick : Binds K d_law_pick ["_law_deck_here", "_law_some"] [] := F_law_pick.binds (ps := ["_law_deck_here", "_law_some"]) fun _ _ _ _ _ _ us hl => match us, hl with | [_, _], _ => rfl
  obtain ⟨f_law_names, d_law_names, a_law_names, F_law_names⟩ := X_law_names
  have g_law_names := PySem.W.mg_of X G a_law_names
  have b_law_names : Binds K d_law_names ["_law_deck_here", "_law_many"] [] := F_law_names.binds (ps := ["_law_deck_here", "_law_many"]) fun _ _ _ _ _ _ us hl => match us, hl with | [_, _], _ => rfl
  obtain ⟨f_law_world, d_law_world, a_law_world, F_law_world⟩ := X_law_world
  have g_law_world := PySem.W.mg_of X G a_law_world
  have b_law_world : Binds K d_law_world ["_law_deck_here"] [] := F_law_world.binds (ps := ["_law_deck_here"]) fun _ _ _ _ _ _ us hl => match us, hl with | [_], _ => rfl
  obtain ⟨f_law_integer, d_law_integer, a_law_integer, F_law_integer⟩ := X_law_integer
  have g_law_integer := PySem.W.mg_of X G a_law_integer
  have b_law_integer : Binds K d_law_integer ["_law_deck_here", "_law_world_here"] [] := F_law_integer.binds (ps := ["_law_deck_here", "_law_world_here"]) fun _ _ _ _ _ _ us hl => match us, hl with | [_, _], _ => rfl
  obtain ⟨f_law_cell, d_law_cell, a_law_cell, F_law_cell⟩ := X_law_cell
  have g_law_cell := PySem.W.mg_of X G a_law_cell
  have b_law_cell : Binds K d_law_cell ["_law_table", "_law_key", "_law_column"] [] := F_law_cell.binds (ps := ["_law_table", "_law_key", "_law_column"]) fun _ _ _ _ _ _ us hl => match us, hl with | [_, _, _], _ => rfl
  obtain ⟨f_law_leaf, d_law_leaf, a_law_leaf, F_law_leaf⟩ := X_law_leaf
  have g_law_leaf := PySem.W.mg_of X G a_law_leaf
  have b_law_leaf : Binds K d_law_leaf ["_law_deck_here", "_law_world_here", "_law_scope", "_law_loose"] [] := F_law_leaf.binds (ps := ["_law_deck_here", "_law_world_here", "_law_scope", "_law_loose"]) fun _ _ _ _ _ _ us hl => match us, hl with | [_, _, _, _], _ => rfl
  obtain ⟨f_law_aggregate, d_law_aggregate, a_law_aggregate, F_law_aggregate⟩ := X_law_aggregate
  have g_law_aggregate := PySem.W.mg_of X G a_law_aggregate
  have b_law_aggregate : Binds K d_law_aggregate ["_law_deck_here", "_law_world_here", "_law_deep", "_law_scope"] [] := F_law_aggregate.binds (ps := ["_law_deck_here", "_law_world_here", "_law_deep", "_law_scope"]) fun _ _ _ _ _ _ us hl => match us, hl with | [_, _, _, _], _ => rfl
  obtain ⟨f_law_expression, d_law_expression, a_law_expression, F_law_expression⟩ := X_law_expression
  have g_law_expression := PySem.W.mg_of X G a_law_expression
  have b_law_expression : Binds K d_law_expression ["_law_deck_here", "_law_world_here", "_law_deep", "_law_scope", "_law_loose"] [] := F_law_expression.binds (ps := ["_law_deck_here", "_law_world_here", "_law_deep", "_law_scope", "_law_loose"]) fun _ _ _ _ _ _ us hl => match us, hl with | [_, _, _, _, _], _ => rfl
  obtain ⟨f_law_statement, d_law_statement, a_law_statement, F_law_statement⟩ := X_law_statement
  have g_law_statement := PySem.W.mg_of X G a_law_statement
  have b_law_statement : Binds K d_law_statement ["_law_deck_here", "_law_world_here", "_law_scope", "_law_deep"] [] := F_law_statement.binds (ps := ["_law_deck_here", "_law_world_here", "_law_scope", "_law_deep"]) fun _ _ _ _ _ _ us hl => match us, hl with | [_, _, _, _], _ => rfl
  obtain ⟨f_law_transaction, d_law_transaction, a_law_transaction, F_law_transaction⟩ := X_law_transaction
  have g_law_transaction := PySem.W.mg_of X G a_law_transaction
  have b_law_transaction : Binds K d_law_transaction ["_law_deck_here", "_law_world_here", "_law_most", "_law_deep"] [] := F_law_transaction.binds (ps := ["_law_deck_here", "_law_world_here", "_law_most", "_law_deep"]) fun _ _ _ _ _ _ us hl => match us, hl with | [_, _, _, _], _ => rfl
  obtain ⟨f_law_text, d_law_text, a_law_text, F_law_text⟩ := X_law_text
  have g_law_text := PySem.W.mg_of X G a_law_text
  have b_law_text : Binds K d_law_text ["_law_thing"] [] := F_law_text.binds (ps := ["_law_thing"]) fun _ _ _ _ _ _ us hl => match us, hl with | [_], _ => rfl
  obtain ⟨f_law_row, d_law_row, a_law_row, F_law_row⟩ := X_law_row
  have g_law_row := PySem.W.mg_of X G a_law_row
  have b_law_row : Binds K d_law_row ["_law_statement_here"] [] := F_law_row.binds (ps := ["_law_statement_here"]) fun _ _ _ _ _ _ us hl => match us, hl with | [_], _ => rfl
  obtain ⟨f_law_chain, d_law_chain, a_law_chain, F_law_chain⟩ := X_law_chain
  have g_law_chain := PySem.W.mg_of X G a_law_chain
  have b_law_chain : Binds K d_law_chain ["_law_deck_here", "_law_world_here"] [] := F_law_chain.binds (ps := ["_law_deck_here", "_law_world_here"]) fun _ _ _ _ _ _ us hl => match us, hl with | [_, _], _ => rfl
  obtain ⟨f_law_right, d_law_right, a_law_right, F_law_right⟩ := X_law_right
  have g_law_right := PySem.W.mg_of X G a_law_right
  have b_law_right : Binds K d_law_right ["_law_transaction_here"] [] := F_law_right.binds (ps := ["_law_transaction_here"]) fun _ _ _ _ _ _ us hl => match us, hl with | [_], _ => rfl
  obtain ⟨f_law0, d_law0, a_law0, F_law0⟩ := X_law
  have e := hfa.symm.trans (PySem.W.mg_of X G a_law0)
  cases e
  obtain ⟨fMinit, dMinit, MMinit, FMinit⟩ := Y_Minit
  have bMinit : Binds K dMinit ["self", "text"] [] := FMinit.binds (ps := ["self", "text"]) fun _ _ _ _ _ _ us hl => match us, hl with | [_, _], _ => rfl
  obtain ⟨fMis_next, dMis_next, MMis_next, FMis_next⟩ := Y_Mis_next
  have bMis_next : Binds K dMis_next ["self", "piece"] [] := FMis_next.binds (ps := ["self", "piece"]) fun _ _ _ _ _ _ us hl => match us, hl with | [_, _], _ => rfl
  obtain ⟨fMis_any_next, dMis_any_next, MMis_any_next, FMis_any_next⟩ := Y_Mis_any_next
  have bMis_any_next : Binds K dMis_any_next ["self", "signs"] [] := FMis_any_next.binds (ps := ["self", "signs"]) fun _ _ _ _ _ _ us hl => match us, hl with | [_, _], _ => rfl
  obtain ⟨fMtake, dMtake, MMtake, FMtake⟩ := Y_Mtake
  have bMtake : Binds K dMtake ["self", "piece"] [] := FMtake.binds (ps := ["self", "piece"]) fun _ _ _ _ _ _ us hl => match us, hl with | [_, _], _ => rfl
  obtain ⟨fMtake_any, dMtake_any, MMtake_any, FMtake_any⟩ := Y_Mtake_any
  have bMtake_any : Binds K dMtake_any ["self", "pieces"] [] := FMtake_any.binds (ps := ["self", "pieces"]) fun _ _ _ _ _ _ us hl => match us, hl with | [_, _], _ => rfl
  obtain ⟨fMtake_while, dMtake_while, MMtake_while, FMtake_while⟩ := Y_Mtake_while
  have bMtake_while : Binds K dMtake_while ["self", "signs"] [] := FMtake_while.binds (ps := ["self", "signs"]) fun _ _ _ _ _ _ us hl => match us, hl with | [_, _], _ => rfl
  obtain ⟨fMtake_word, dMtake_word, MMtake_word, FMtake_word⟩ := Y_Mtake_word
  have bMtake_word : Binds K dMtake_word ["self"] [] := FMtake_word.binds (ps := ["self"]) fun _ _ _ _ _ _ us hl => match us, hl with | [_], _ => rfl
  obtain ⟨fMtake_name, dMtake_name, MMtake_name, FMtake_name⟩ := Y_Mtake_name
  have bMtake_name : Binds K dMtake_name ["self"] [] := FMtake_name.binds (ps := ["self"]) fun _ _ _ _ _ _ us hl => match us, hl with | [_], _ => rfl
  obtain ⟨fMtake_value, dMtake_value, MMtake_value, FMtake_value⟩ := Y_Mtake_value
  have bMtake_value : Binds K dMtake_value ["self"] [] := FMtake_value.binds (ps := ["self"]) fun _ _ _ _ _ _ us hl => match us, hl with | [_], _ => rfl
  obtain ⟨fMtake_end, dMtake_end, MMtake_end, FMtake_end⟩ := Y_Mtake_end
  have bMtake_end : Binds K dMtake_end ["self"] [] := FMtake_end.binds (ps := ["self"]) fun _ _ _ _ _ _ us hl => match us, hl with | [_], _ => rfl
  have M_R : Mk K C_R fMinit := ⟨mk_R, MMinit.at_, MMinit.fn, kc_R⟩
  have mlist := PySem.W.mg_none_of X G z_list
  have msum := PySem.W.mg_none_of X G z_sum
  have mlen := PySem.W.mg_none_of X G z_len
  have mrange := PySem.W.mg_none_of X G z_range
  have mint := PySem.W.mg_none_of X G z_int
  have mbool := PySem.W.mg_none_of X G z_bool
  have mrepr := PySem.W.mg_none_of X G z_repr
  have mtuple := PySem.W.mg_none_of X G z_tuple
  have mstr := PySem.W.mg_none_of X G z_str
  have misinstance := PySem.W.mg_none_of X G z_isinstance
  have mall := PySem.W.mg_none_of X G z_all
  have many := PySem.W.mg_none_of X G z_any
  have mzip := PySem.W.mg_none_of X G z_zip
  have msorted := PySem.W.mg_none_of X G z_sorted
  have mmin := PySem.W.mg_none_of X G z_min
  have mmax := PySem.W.mg_none_of X G z_max
  have menumerate := PySem.W.mg_none_of X G z_enumerate
  have mLIMIT := PySem.W.mg_of X G c_LIMIT
  have mLONGEST_NAME := PySem.W.mg_of X G c_LONGEST_NAME
  have mLONGEST_VALUE := PySem.W.mg_of X G c_LONGEST_VALUE
  have mDEEPEST := PySem.W.mg_of X G c_DEEPEST
  have mDEPTH_OF_ROWS := PySem.W.mg_of X G c_DEPTH_OF_ROWS
  have mFIELDS := PySem.W.mg_of X G z_FIELDS
  have mFIELDS2 := PySem.W.mg_of X G z_FIELDS2
  have mALL := PySem.W.mg_of X G z_ALL
  have mWORDS := PySem.W.mg_of X G z_WORDS
  have mAGG := PySem.W.mg_of X G z_AGG
  have mLETTERS := PySem.W.mg_of X G z_LETTERS
  have mDIGITS := PySem.W.mg_of X G z_DIGITS
  have mOPER := PySem.W.mg_of X G z_OPER
  have mARGS := PySem.W.mg_of X G z_ARGS
  obtain ⟨oc, od, kV, doc, pm, an, cdv, ct, osl, hfd, _, _⟩ := F_law0.ex
  refine ⟨d_law0, fun s v => ?_, fun base _ _ => ?_⟩
  · subst hfd
    exact .of_eq rfl
  · have Gdraw := ok_draw (P := P) (w := w) (mg := mg) (base := base) (k := 0) F_law_draw
    have Gpick := ok_pick (k := 1) F_law_pick Gdraw g_law_draw F_law_draw.kp b_law_draw mlen
    have Gnames := ok_names (k := 2) F_law_names (Gdraw.mono (by decide)) g_law_draw F_law_draw.kp b_law_draw Gpick g_law_pick F_law_pick.kp b_law_pick mrange mlen
    have Gworld := ok_world (k := 3) F_law_world (Gdraw.mono (by decide)) g_law_draw F_law_draw.kp b_law_draw Gnames g_law_names F_law_names.kp b_law_names mrange
    have Gdeck := ok_deck (P := P) (w := w) (mg := mg) (base := base) (k := 0) F_law_deck mlist msum mlen
    have Gint := ok_integer (k := 2) F_law_integer (Gdraw.mono (by decide)) g_law_draw F_law_draw.kp b_law_draw Gpick g_law_pick F_law_pick.kp b_law_pick
    have Gcell := ok_cell (P := P) (w := w) (mg := mg) (base := base) (k := 0) F_law_cell
    have Gleaf := ok_leaf (k := 3) F_law_leaf (Gdraw.mono (by decide)) g_law_draw F_law_draw.kp b_law_draw (Gpick.mono (by decide)) g_law_pick F_law_pick.kp b_law_pick Gint g_law_integer F_law_integer.kp b_law_integer
    have Gex := ok_exprs (k := 4) F_law_expression F_law_aggregate (Gdraw.mono (by decide)) g_law_draw F_law_draw.kp b_law_draw (Gpick.mono (by decide)) g_law_pick F_law_pick.kp b_law_pick Gleaf g_law_leaf F_law_leaf.kp b_law_leaf (Gcell.mono (by decide)) g_law_cell F_law_cell.kp b_law_cell g_law_aggregate F_law_aggregate.kp b_law_aggregate g_law_expression F_law_expression.kp b_law_expression mmax 3
    have Gst := ok_stmt (k := 11) F_law_statement (Gdraw.mono (by decide)) g_law_draw F_law_draw.kp b_law_draw (Gpick.mono (by decide)) g_law_pick F_law_pick.kp b_law_pick (Gleaf.mono (by decide)) g_law_leaf F_law_leaf.kp b_law_leaf Gex g_law_expression F_law_expression.kp b_law_expression
    have Gtr := ok_tran (k := 12) F_law_transaction (Gdraw.mono (by decide)) g_law_draw F_law_draw.kp b_law_draw Gst g_law_statement F_law_statement.kp b_law_statement mrange mtuple
    have Gii := ok_is_integer (P := P) (w := w) (mg := mg) (base := base) (k := 0) Fis_integer misinstance mint mbool
    have Giv := ok_is_value (k := 1) Fis_value Gii gis_integer Fis_integer.kp bis_integer mLIMIT
    have Gin := ok_is_name (P := P) (w := w) (mg := mg) (base := base) (k := 0) Fis_name misinstance mstr mlen mall mWORDS T_WORDS mLONGEST_NAME mLETTERS
    have Gwo := ok_word_of (P := P) (w := w) (mg := mg) (base := base) (k := 0) Fword_of misinstance mtuple mstr
    have Gfi := ok_fits (k := 2) Ffits_expressions Giv gis_value Fis_value.kp bis_value (Gin.mono (by decide)) gis_name Fis_name.kp bis_name (Gii.mono (by decide)) gis_integer Fis_integer.kp bis_integer misinstance mtuple
    have Ghf := ok_has_form (k := 3) Fhas_form (Gwo.mono (by decide)) gword_of Fword_of.kp bword_of Gfi gfits_expressions Ffits_expressions.kp bfits_expressions mFIELDS T_FIELDS.1 mlen mzip mall
    have Gof := ok_contained_of (P := P) (w := w) (mg := mg) (base := base) (k := 0) Fcontained_of mFIELDS T_FIELDS.2 mzip
    have Gcon := ok_contained (k := 1) Fcontained Gof gcontained_of Fcontained_of.kp bcontained_of mALL T_ALL
    have Gx := ok_is_expression (k := 4) Fis_expression Ghf ghas_form Fhas_form.kp bhas_form (Gcon.mono (by decide)) gcontained Fcontained.kp bcontained
    have Gfree := ok_contained_free (k := 1) Fcontained_free Gof gcontained_of Fcontained_of.kp bcontained_of
    have Gone := ok_one_deeper (k := 2) Fone_deeper Gcon gcontained Fcontained.kp bcontained
    have Gall := ok_all_parts (k := 3) Fall_parts Gone gone_deeper Fone_deeper.kp bone_deeper
    have Grow := ok_rows_of (P := P) (w := w) (mg := mg) (base := base) (k := 0) Frows_of
    have Gpp := ok_is_plain_part (k := 1) Fis_plain_part Grow grows_of Frows_of.kp brows_of mAGG T_AGG
    have Gpl := ok_is_plain (k := 4) Fis_plain Gall gall_parts Fall_parts.kp ball_parts (Gpp.mono (by decide)) gis_plain_part Fis_plain_part.kp bis_plain_part mall
    have Gsi := ok_is_simple (k := 4) Fis_simple Gall gall_parts Fall_parts.kp ball_parts mAGG T_AGG mall
    have Ghk := ok_has_free_key (k := 2) Fhas_free_key Gfree gcontained_free Fcontained_free.kp bcontained_free
    have Gvs := ok_variables_of (k := 4) Fvariables_of Gall gall_parts Fall_parts.kp ball_parts msorted mtuple
    have Gf2 := ok_fits2 (k := 5) Ffits_statements (Gin.mono (by decide)) gis_name Fis_name.kp bis_name Gx gis_expression Fis_expression.kp bis_expression Gpl gis_plain Fis_plain.kp bis_plain Gsi gis_simple Fis_simple.kp bis_simple (Ghk.mono (by decide)) ghas_free_key Fhas_free_key.kp bhas_free_key
    have Gis := ok_is_statement (k := 6) Fis_statement (Gwo.mono (by decide)) gword_of Fword_of.kp bword_of Gf2 gfits_statements Ffits_statements.kp bfits_statements mFIELDS2 T_FIELDS2.1 mlen mzip mall
    have Gnl := ok_names_let (P := P) (w := w) (mg := mg) (base := base) (k := 0) Fnames_let
    have Gei := ok_expressions_in (P := P) (w := w) (mg := mg) (base := base) (k := 0) Fexpressions_in mFIELDS2 T_FIELDS2.2 mzip
    have Gnu := ok_names_used (k := 5) Fnames_used (Gei.mono (by decide)) gexpressions_in Fexpressions_in.kp bexpressions_in Gvs gvariables_of Fvariables_of.kp bvariables_of
    have Gmf := ok_may_follow (k := 6) Fmay_follow (Gnl.mono (by decide)) gnames_let Fnames_let.kp bnames_let Gnu gnames_used Fnames_used.kp bnames_used mall many
    have Ri := ok_rinit (P := P) (w := w) (mg := mg) (base := base) (k := 0) FMinit T_R
    have Rn := ok_next (P := P) (w := w) (mg := mg) (base := base) (k := 0) FMis_next T_R
    have Ra := ok_anext (P := P) (w := w) (mg := mg) (base := base) (k := 0) FMis_any_next T_R
    have Rt := ok_take (k := 1) FMtake T_R Rn MMis_next bMis_next mlen
    have Ry := ok_tany (k := 2) FMtake_any T_R (Rn.mono (by decide)) MMis_next bMis_next Rt MMtake bMtake
    have Rw := ok_twhile (k := 1) FMtake_while T_R Ra MMis_any_next bMis_any_next
    have Ro := ok_tword (k := 2) FMtake_word T_R Rw MMtake_while bMtake_while mLETTERS
    have Rm := ok_tname (k := 3) FMtake_name T_R Ro MMtake_word bMtake_word (Gin.mono (by decide)) gis_name Fis_name.kp bis_name
    have Rv := ok_tvalue (k := 2) FMtake_value T_R (Rn.mono (by decide)) MMis_next bMis_next Rt MMtake bMtake Rw MMtake_while bMtake_while Giv gis_value Fis_value.kp bis_value mDIGITS mLONGEST_VALUE mlen mint mstr
    have Re := ok_tend (P := P) (w := w) (mg := mg) (base := base) (k := 0) FMtake_end T_R mlen
    have R : RdM P w K mg base C_R 4 := ⟨T_R, ⟨_, _, Rn.mono (by decide), MMis_next, bMis_next⟩, ⟨_, _, Ra.mono (by decide), MMis_any_next, bMis_any_next⟩, ⟨_, _, Rt.mono (by decide), MMtake, bMtake⟩, ⟨_, _, Ry.mono (by decide), MMtake_any, bMtake_any⟩, ⟨_, _, Ro.mono (by decide), MMtake_word, bMtake_word⟩, ⟨_, _, Rm, MMtake_name, bMtake_name⟩, ⟨_, _, Rv.mono (by decide), MMtake_value, bMtake_value⟩, ⟨_, _, Re.mono (by decide), MMtake_end, bMtake_end⟩⟩
    have XN : DF P w K mg base "is_name" ["thing"] (sp_isS K isN) 4 := ⟨_, _, Gin.mono (by decide), gis_name, Fis_name.kp, bis_name⟩
    have XR : DF P w K mg base "rows_of" ["table"] (sp_rows_of K) 4 := ⟨_, _, Grow.mono (by decide), grows_of, Frows_of.kp, brows_of⟩
    have XE := ok_texp (k := 4) Ftake_expression gtake_expression Ftake_expression.kp btake_expression Ftake_operation gtake_operation Ftake_operation.kp btake_operation Ftake_cell gtake_cell Ftake_cell.kp btake_cell Ftake_call gtake_call Ftake_call.kp btake_call Ftake_beginning gtake_beginning Ftake_beginning.kp btake_beginning Ftake_arguments gtake_arguments Ftake_arguments.kp btake_arguments R XN XR mOPER T_OPER mARGS T_ARGS mAGG T_AGG mDEPTH_OF_ROWS mlen 13
    have R44 : RdM P w K mg base C_R 44 := R.up (by decide)
    have X44 : DF P w K mg base "take_expression" ["reader", "room"] (sp_texp K C_R 13) 44 := XE
    have Xl : DF P w K mg base "take_let" ["reader"] (sp_tlet K C_R 13) 45 := ⟨_, _, ok_take_let (k := 44) Ftake_let R44 X44 (by decide) mDEEPEST, gtake_let, Ftake_let.kp, btake_let⟩
    have Xp : DF P w K mg base "take_put" ["reader"] (sp_t4 K C_R 13 "put" [91] tBr) 45 := ⟨_, _, ok_take_put (k := 44) Ftake_put R44 X44 (by decide) mDEEPEST, gtake_put, Ftake_put.kp, btake_put⟩
    have Xe : DF P w K mg base "take_each" ["reader"] (sp_t4 K C_R 13 "each" tIf tP2) 45 := ⟨_, _, ok_take_each (k := 44) Ftake_each R44 X44 (by decide) mDEEPEST, gtake_each, Ftake_each.kp, btake_each⟩
    have Xs : DF P w K mg base "take_statement" ["reader"] (sp_tst K C_R 13) 46 := ⟨_, _, ok_take_statement (k := 45) Ftake_statement (R.up (by decide)) (X44.up (by decide)) Xl Xp Xe (by decide) mDEEPEST, gtake_statement, Ftake_statement.kp, btake_statement⟩
    have Xi : DF P w K mg base "is_statement" ["thing"] (sp_ist K) 46 := ⟨_, _, Gis.mono (by decide), gis_statement, Fis_statement.kp, bis_statement⟩
    have Grs := ok_read_statement (k := 45) Fread_statement M_R (PySem.W.mg_of X G a_R) (Ri.mono (by decide)) bMinit (R.up (by decide)) Xs Xi
    have Glin := ok_lines_of (P := P) (w := w) (mg := mg) (base := base) (k := 0) Flines_of
    have Grt := ok_read_transaction (k := 47) Fread_transaction (Glin.mono (by decide)) glines_of Flines_of.kp blines_of Grs gread_statement Fread_statement.kp bread_statement (Gmf.mono (by decide)) gmay_follow Fmay_follow.kp bmay_follow (Gnl.mono (by decide)) gnames_let Fnames_let.kp bnames_let misinstance mstr menumerate mtuple
    have GwL := ok_wcL (P := P) (w := w) (mg := mg) (base := base) (k := 0) Fwith_commas
    have GwT := ok_wcT (P := P) (w := w) (mg := mg) (base := base) (k := 0) Fwith_commas
    have Gpc := ok_pieces (ft := fwith_commas) (dt := dwith_commas) (k := 1) Fpieces_of GwL GwT gwith_commas Fwith_commas.kp bwith_commas mOPER T_OPER mAGG T_AGG mstr
    have Gse := ok_show_expression (k := 2) Fshow_expression Gpc gpieces_of Fpieces_of.kp bpieces_of misinstance mstr
    have Gss := ok_show_statement (k := 3) Fshow_statement Gse gshow_expression Fshow_expression.kp bshow_expression misinstance mstr
    have Gsh := ok_show_transaction (k := 4) Fshow_transaction Gss gshow_statement Fshow_statement.kp bshow_statement
    have Xt := ok_ltext (P := P) (w := w) (mg := mg) (base := base) (k := 0) F_law_text g_law_text F_law_text.kp b_law_text mstr 13
    have Glr := ok_law_row (k := 14) F_law_row Xt misinstance mstr
    have Gch := ok_law_chain (k := 3) F_law_chain (Gdraw.mono (by decide)) g_law_draw F_law_draw.kp b_law_draw (Gpick.mono (by decide)) g_law_pick F_law_pick.kp b_law_pick Gint g_law_integer F_law_integer.kp b_law_integer mrange
    have Gri := ok_right (k := 48) F_law_right ⟨_, _, Glr.mono (by decide), g_law_row, F_law_row.kp, b_law_row⟩ ⟨_, _, Gsh.mono (by decide), gshow_transaction, Fshow_transaction.kp, bshow_transaction⟩ ⟨_, _, Grt, gread_transaction, Fread_transaction.kp, bread_transaction⟩ misinstance mstr mrepr
    exact ok_law (k := 49) F_law0 (Gdeck.mono (by decide)) g_law_deck F_law_deck.kp b_law_deck (Gworld.mono (by decide)) g_law_world F_law_world.kp b_law_world (Gtr.mono (by decide)) g_law_transaction F_law_transaction.kp b_law_transaction (Gch.mono (by decide)) g_law_chain F_law_chain.kp b_law_chain Gri g_law_right F_law_right.kp b_law_right (Gsh.mono (by decide)) gshow_transaction Fshow_transaction.kp bshow_transaction (Grt.mono (by decide)) gread_transaction Fread_transaction.kp bread_transaction mrange menumerate mtuple
end L10
open PySem PySem.W PyProof.Rows
set_option maxHeartbeats 0 in
theorem PySem.Challenge.cw_lookdone_k10_transactions_written_holds : PySem.Challenge.rw_lookdone_k10_transactions_written.Holds := by
  w_on; o_law; k_head; (case hw => w_witness2)
  k_fill
  refine GR.walk_g (l := PySem.Challenge.rw_lookdone_k10_transactions_written) (n := 63) (k := 50) (x := "_law_script") (sp := L10.sp_law) rfl (by decide) rfl ⟨rfl, by decide, by decide⟩ (fun w h Y => PySem.W.kIn_of Y) ?F (fun _ _ a ns hl _ hS => ⟨a, ns, rfl, hS, fun _ => rfl⟩)
  case F =>
    intro w mg fa h KX G hmg
    refine' L10.all_mk KX G hmg (L10.has_mk (y := "is_integer") (st := L10.s_is_integer) ?a_is_integer ?l_is_integer ?c_is_integer ?k_is_integer) (L10.has_mk (y := "is_value") (st := L10.s_is_value) ?a_is_value ?l_is_value ?c_is_value ?k_is_value) (L10.has_mk (y := "is_name") (st := L10.s_is_name) ?a_is_name ?l_is_name ?c_is_name ?k_is_name) (L10.has_mk (y := "word_of") (st := L10.s_word_of) ?a_word_of ?l_word_of ?c_word_of ?k_word_of) (L10.has_mk (y := "is_expression") (st := L10.s_is_expression) ?a_is_expression ?l_is_expression ?c_is_expression ?k_is_expression) (L10.has_mk (y := "has_form") (st := L10.s_has_form) ?a_has_form ?l_has_form ?c_has_form ?k_has_form) (L10.has_mk (y := "fits") (st := L10.s_fits) ?a_fits_expressions ?l_fits_expressions ?c_fits_expressions ?k_fits_expressions) (L10.has_mk (y := "contained") (st := L10.s_contained) ?a_contained ?l_contained ?c_contained ?k_contained) (L10.has_mk (y := "contained_free") (st := L10.s_contained_free) ?a_contained_free ?l_contained_free ?c_contained_free ?k_contained_free) (L10.has_mk (y := "contained_of") (st := L10.s_contained_of) ?a_contained_of ?l_contained_of ?c_contained_of ?k_contained_of) (L10.has_mk (y := "one_deeper") (st := L10.s_one_deeper) ?a_one_deeper ?l_one_deeper ?c_one_deeper ?k_one_deeper) (L10.has_mk (y := "all_parts") (st := L10.s_all_parts) ?a_all_parts ?l_all_parts ?c_all_parts ?k_all_parts) (L10.has_mk (y := "rows_of") (st := L10.s_rows_of) ?a_rows_of ?l_rows_of ?c_rows_of ?k_rows_of) (L10.has_mk (y := "is_plain") (st := L10.s_is_plain) ?a_is_plain ?l_is_plain ?c_is_plain ?k_is_plain) (L10.has_mk (y := "is_plain_part") (st := L10.s_is_plain_part) ?a_is_plain_part ?l_is_plain_part ?c_is_plain_part ?k_is_plain_part) (L10.has_mk (y := "has_free_key") (st := L10.s_has_free_key) ?a_has_free_key ?l_has_free_key ?c_has_free_key ?k_has_free_key) (L10.has_mk (y := "is_simple") (st := L10.s_is_simple) ?a_is_simple ?l_is_simple ?c_is_simple ?k_is_simple) (L10.has_mk (y := "variables_of") (st := L10.s_variables_of) ?a_variables_of ?l_variables_of ?c_variables_of ?k_variables_of) (L10.has_mk (y := "show_expression") (st := L10.s_show_expression) ?a_show_expression ?l_show_expression ?c_show_expression ?k_show_expression) (L10.has_mk (y := "pieces_of") (st := L10.s_pieces_of) ?a_pieces_of ?l_pieces_of ?c_pieces_of ?k_pieces_of) (L10.has_mk (y := "with_commas") (st := L10.s_with_commas) ?a_with_commas ?l_with_commas ?c_with_commas ?k_with_commas) (L10.has_mk (y := "take_expression") (st := L10.s_take_expression) ?a_take_expression ?l_take_expression ?c_take_expression ?k_take_expression) (L10.has_mk (y := "take_operation") (st := L10.s_take_operation) ?a_take_operation ?l_take_operation ?c_take_operation ?k_take_operation) (L10.has_mk (y := "take_cell") (st := L10.s_take_cell) ?a_take_cell ?l_take_cell ?c_take_cell ?k_take_cell) (L10.has_mk (y := "take_call") (st := L10.s_take_call) ?a_take_call ?l_take_call ?c_take_call ?k_take_call) (L10.has_mk (y := "take_beginning") (st := L10.s_take_beginning) ?a_take_beginning ?l_take_beginning ?c_take_beginning ?k_take_beginning) (L10.has_mk (y := "take_arguments") (st := L10.s_take_arguments) ?a_take_arguments ?l_take_arguments ?c_take_arguments ?k_take_arguments) (L10.has_mk (y := "is_statement") (st := L10.s_is_statement) ?a_is_statement ?l_is_statement ?c_is_statement ?k_is_statement) (L10.has_mk (y := "fits") (st := L10.s_fits2) ?a_fits_statements ?l_fits_statements ?c_fits_statements ?k_fits_statements) (L10.has_mk (y := "may_follow") (st := L10.s_may_follow) ?a_may_follow ?l_may_follow ?c_may_follow ?k_may_follow) (L10.has_mk (y := "names_let") (st := L10.s_names_let) ?a_names_let ?l_names_let ?c_names_let ?k_names_let) (L10.has_mk (y := "names_used") (st := L10.s_names_used) ?a_names_used ?l_names_used ?c_names_used ?k_names_used) (L10.has_mk (y := "expressions_in") (st := L10.s_expressions_in) ?a_expressions_in ?l_expressions_in ?c_expressions_in ?k_expressions_in) (L10.has_mk (y := "show_transaction") (st := L10.s_show_transaction) ?a_show_transaction ?l_show_transaction ?c_show_transaction ?k_show_transaction) (L10.has_mk (y := "show_statement") (st := L10.s_show_statement) ?a_show_statement ?l_show_statement ?c_show_statement ?k_show_statement) (L10.has_mk (y := "read_transaction") (st := L10.s_read_transaction) ?a_read_transaction ?l_read_transaction ?c_read_transaction ?k_read_transaction) (L10.has_mk (y := "lines_of") (st := L10.s_lines_of) ?a_lines_of ?l_lines_of ?c_lines_of ?k_lines_of) (L10.has_mk (y := "read_statement") (st := L10.s_read_statement) ?a_read_statement ?l_read_statement ?c_read_statement ?k_read_statement) (L10.has_mk (y := "take_statement") (st := L10.s_take_statement) ?a_take_statement ?l_take_statement ?c_take_statement ?k_take_statement) (L10.has_mk (y := "take_let") (st := L10.s_take_let) ?a_take_let ?l_take_let ?c_take_let ?k_take_let) (L10.has_mk (y := "take_put") (st := L10.s_take_put) ?a_take_put ?l_take_put ?c_take_put ?k_take_put) (L10.has_mk (y := "take_each") (st := L10.s_take_each) ?a_take_each ?l_take_each ?c_take_each ?k_take_each) (L10.has_mk (y := "_law_deck") (st := L10.s_law_deck) ?a_law_deck ?l_law_deck ?c_law_deck ?k_law_deck) (L10.has_mk (y := "_law_draw") (st := L10.s_law_draw) ?a_law_draw ?l_law_draw ?c_law_draw ?k_law_draw) (L10.has_mk (y := "_law_pick") (st := L10.s_law_pick) ?a_law_pick ?l_law_pick ?c_law_pick ?k_law_pick) (L10.has_mk (y := "_law_names") (st := L10.s_law_names) ?a_law_names ?l_law_names ?c_law_names ?k_law_names) (L10.has_mk (y := "_law_world") (st := L10.s_law_world) ?a_law_world ?l_law_world ?c_law_world ?k_law_world) (L10.has_mk (y := "_law_integer") (st := L10.s_law_integer) ?a_law_integer ?l_law_integer ?c_law_integer ?k_law_integer) (L10.has_mk (y := "_law_cell") (st := L10.s_law_cell) ?a_law_cell ?l_law_cell ?c_law_cell ?k_law_cell) (L10.has_mk (y := "_law_leaf") (st := L10.s_law_leaf) ?a_law_leaf ?l_law_leaf ?c_law_leaf ?k_law_leaf) (L10.has_mk (y := "_law_aggregate") (st := L10.s_law_aggregate) ?a_law_aggregate ?l_law_aggregate ?c_law_aggregate ?k_law_aggregate) (L10.has_mk (y := "_law_expression") (st := L10.s_law_expression) ?a_law_expression ?l_law_expression ?c_law_expression ?k_law_expression) (L10.has_mk (y := "_law_statement") (st := L10.s_law_statement) ?a_law_statement ?l_law_statement ?c_law_statement ?k_law_statement) (L10.has_mk (y := "_law_transaction") (st := L10.s_law_transaction) ?a_law_transaction ?l_law_transaction ?c_law_transaction ?k_law_transaction) (L10.has_mk (y := "_law_text") (st := L10.s_law_text) ?a_law_text ?l_law_text ?c_law_text ?k_law_text) (L10.has_mk (y := "_law_row") (st := L10.s_law_row) ?a_law_row ?l_law_row ?c_law_row ?k_law_row) (L10.has_mk (y := "_law_chain") (st := L10.s_law_chain) ?a_law_chain ?l_law_chain ?c_law_chain ?k_law_chain) (L10.has_mk (y := "_law_right") (st := L10.s_law_right) ?a_law_right ?l_law_right ?c_law_right ?k_law_right) (L10.has_mk (y := "law") (st := L10.s_law) ?a_law ?l_law ?c_law ?k_law) ?z_list ?z_sum ?z_len ?z_range ?z_int ?z_bool ?z_repr ?z_tuple ?z_str ?z_isinstance ?z_all ?z_any ?z_zip ?z_sorted ?z_min ?z_max ?z_enumerate ?c0_LIMIT ?c0_LONGEST_NAME ?c0_LONGEST_VALUE ?c0_DEEPEST ?c0_DEPTH_OF_ROWS ?z_FIELDS (L10.flds_mk ?l_F ?kl_F ?hk_F ?low_F ?q_0 (L10.ktx_mk ?l_0 ?v_0 (by decide)) ?q_1 (L10.ktx_mk ?l_1 ?v_1 (by decide)) ?q_2 (L10.ktx_mk ?l_2 ?v_2 (by decide)) ?q_3 (L10.ktx_mk ?l_3 ?v_3 (by decide)) ?q_4 (L10.ktx_mk ?l_4 ?v_4 (by decide)) ?q_5 (L10.ktx_mk ?l_5 ?v_5 (by decide)) ?q_6 (L10.ktx_mk ?l_6 ?v_6 (by decide)) ?q_7 (L10.ktx_mk ?l_7 ?v_7 (by decide)) ?q_8 (L10.ktx_mk ?l_8 ?v_8 (by decide)) ?q_9 (L10.ktx_mk ?l_9 ?v_9 (by decide)) ?q_10 (L10.ktx_mk ?l_10 ?v_10 (by decide)) ?q_11 (L10.ktx_mk ?l_11 ?v_11 (by decide)) ?q_12 (L10.ktx_mk ?l_12 ?v_12 (by decide)) ?q_13 (L10.ktx_mk ?l_13 ?v_13 (by decide)) ?q_14 (L10.ktx_mk ?l_14 ?v_14 (by decide)) ?q_15 (L10.ktx_mk ?l_15 ?v_15 (by decide))) ?z_FIELDS2 (L10.fldsS_mk ?l_F2 ?kl_F2 ?hk_F2 ?low_F2 ?q2_0 (L10.ktx_mk ?l2_0 ?v2_0 (by decide)) ?q2_1 (L10.ktx_mk ?l2_1 ?v2_1 (by decide)) ?q2_2 (L10.ktx_mk ?l2_2 ?v2_2 (by decide)) ?q2_3 (L10.ktx_mk ?l2_3 ?v2_3 (by decide)) ?q2_4 (L10.ktx_mk ?l2_4 ?v2_4 (by decide))) ?z_ALL (L10.ktx_mk (fs := ["free", "bound"]) ?l_A ?v_A (by decide)) ?z_WORDS (L10.ktx_mk (fs := ["key", "if", "at", "count", "sum", "most", "first", "let", "need", "put", "each", "tell"]) ?l_W ?v_W (by decide)) ?z_AGG (L10.ktx_mk (fs := ["count", "sum", "most", "first"]) ?l_G ?v_G (by decide)) ?z_LETTERS ?z_DIGITS ?z_OPER (L10.ktx_mk (fs := ["+", "-", "*", "<", "="]) ?l_O ?v_O (by decide)) ?z_ARGS (L10.argT_mk ?l_AR ?kl_AR ?low_AR ?q_AR0 ?q_AR1 ?q_AR2 ?q_AR3 ?q_AR4 ?q_AR5) ?a_R (L10.rc_mk ?pg_R ?hd_R ?po_R ?sa_R ?nT_R ?nP_R) ?mk_R ?kc_R (L10.hasM_mk (st := L10.s_init) ?ma_Minit ?mi_Minit ?ml_Minit ?mc_Minit ?mkp_Minit) (L10.hasM_mk (st := L10.s_is_next) ?ma_Mis_next ?mi_Mis_next ?ml_Mis_next ?mc_Mis_next ?mkp_Mis_next) (L10.hasM_mk (st := L10.s_is_any_next) ?ma_Mis_any_next ?mi_Mis_any_next ?ml_Mis_any_next ?mc_Mis_any_next ?mkp_Mis_any_next) (L10.hasM_mk (st := L10.s_take) ?ma_Mtake ?mi_Mtake ?ml_Mtake ?mc_Mtake ?mkp_Mtake) (L10.hasM_mk (st := L10.s_take_any) ?ma_Mtake_any ?mi_Mtake_any ?ml_Mtake_any ?mc_Mtake_any ?mkp_Mtake_any) (L10.hasM_mk (st := L10.s_take_while) ?ma_Mtake_while ?mi_Mtake_while ?ml_Mtake_while ?mc_Mtake_while ?mkp_Mtake_while) (L10.hasM_mk (st := L10.s_take_word) ?ma_Mtake_word ?mi_Mtake_word ?ml_Mtake_word ?mc_Mtake_word ?mkp_Mtake_word) (L10.hasM_mk (st := L10.s_take_name) ?ma_Mtake_name ?mi_Mtake_name ?ml_Mtake_name ?mc_Mtake_name ?mkp_Mtake_name) (L10.hasM_mk (st := L10.s_take_value) ?ma_Mtake_value ?mi_Mtake_value ?ml_Mtake_value ?mc_Mtake_value ?mkp_Mtake_value) (L10.hasM_mk (st := L10.s_take_end) ?ma_Mtake_end ?mi_Mtake_end ?ml_Mtake_end ?mc_Mtake_end ?mkp_Mtake_end)
    (case a_is_integer => k_is)
    (case l_is_integer => k_is)
    (case c_is_integer => k_is)
    (case k_is_integer => k_is)
    (case a_is_value => k_is)
    (case l_is_value => k_is)
    (case c_is_value => k_is)
    (case k_is_value => k_is)
    (case a_is_name => k_is)
    (case l_is_name => k_is)
    (case c_is_name => k_is)
    (case k_is_name => k_is)
    (case a_word_of => k_is)
    (case l_word_of => k_is)
    (case c_word_of => k_is)
    (case k_word_of => k_is)
    (case a_is_expression => k_is)
    (case l_is_expression => k_is)
    (case c_is_expression => k_is)
    (case k_is_expression => k_is)
    (case a_has_form => k_is)
    (case l_has_form => k_is)
    (case c_has_form => k_is)
    (case k_has_form => k_is)
    (case a_fits_expressions => k_is)
    (case l_fits_expressions => k_is)
    (case c_fits_expressions => k_is)
    (case k_fits_expressions => k_is)
    (case a_contained => k_is)
    (case l_contained => k_is)
    (case c_contained => k_is)
    (case k_contained => k_is)
    (case a_contained_free => k_is)
    (case l_contained_free => k_is)
    (case c_contained_free => k_is)
    (case k_contained_free => k_is)
    (case a_contained_of => k_is)
    (case l_contained_of => k_is)
    (case c_contained_of => k_is)
    (case k_contained_of => k_is)
    (case a_one_deeper => k_is)
    (case l_one_deeper => k_is)
    (case c_one_deeper => k_is)
    (case k_one_deeper => k_is)
    (case a_all_parts => k_is)
    (case l_all_parts => k_is)
    (case c_all_parts => k_is)
    (case k_all_parts => k_is)
    (case a_rows_of => k_is)
    (case l_rows_of => k_is)
    (case c_rows_of => k_is)
    (case k_rows_of => k_is)
    (case a_is_plain => k_is)
    (case l_is_plain => k_is)
    (case c_is_plain => k_is)
    (case k_is_plain => k_is)
    (case a_is_plain_part => k_is)
    (case l_is_plain_part => k_is)
    (case c_is_plain_part => k_is)
    (case k_is_plain_part => k_is)
    (case a_has_free_key => k_is)
    (case l_has_free_key => k_is)
    (case c_has_free_key => k_is)
    (case k_has_free_key => k_is)
    (case a_is_simple => k_is)
    (case l_is_simple => k_is)
    (case c_is_simple => k_is)
    (case k_is_simple => k_is)
    (case a_variables_of => k_is)
    (case l_variables_of => k_is)
    (case c_variables_of => k_is)
    (case k_variables_of => k_is)
    (case a_show_expression => k_is)
    (case l_show_expression => k_is)
    (case c_show_expression => k_is)
    (case k_show_expression => k_is)
    (case a_pieces_of => k_is)
    (case l_pieces_of => k_is)
    (case c_pieces_of => k_is)
    (case k_pieces_of => k_is)
    (case a_with_commas => k_is)
    (case l_with_commas => k_is)
    (case c_with_commas => k_is)
    (case k_with_commas => k_is)
    (case a_take_expression => k_is)
    (case l_take_expression => k_is)
    (case c_take_expression => k_is)
    (case k_take_expression => k_is)
    (case a_take_operation => k_is)
    (case l_take_operation => k_is)
    (case c_take_operation => k_is)
    (case k_take_operation => k_is)
    (case a_take_cell => k_is)
    (case l_take_cell => k_is)
    (case c_take_cell => k_is)
    (case k_take_cell => k_is)
    (case a_take_call => k_is)
    (case l_take_call => k_is)
    (case c_take_call => k_is)
    (case k_take_call => k_is)
    (case a_take_beginning => k_is)
    (case l_take_beginning => k_is)
    (case c_take_beginning => k_is)
    (case k_take_beginning => k_is)
    (case a_take_arguments => k_is)
    (case l_take_arguments => k_is)
    (case c_take_arguments => k_is)
    (case k_take_arguments => k_is)
    (case a_is_statement => k_is)
    (case l_is_statement => k_is)
    (case c_is_statement => k_is)
    (case k_is_statement => k_is)
    (case a_fits_statements => k_is)
    (case l_fits_statements => k_is)
    (case c_fits_statements => k_is)
    (case k_fits_statements => k_is)
    (case a_may_follow => k_is)
    (case l_may_follow => k_is)
    (case c_may_follow => k_is)
    (case k_may_follow => k_is)
    (case a_names_let => k_is)
    (case l_names_let => k_is)
    (case c_names_let => k_is)
    (case k_names_let => k_is)
    (case a_names_used => k_is)
    (case l_names_used => k_is)
    (case c_names_used => k_is)
    (case k_names_used => k_is)
    (case a_expressions_in => k_is)
    (case l_expressions_in => k_is)
    (case c_expressions_in => k_is)
    (case k_expressions_in => k_is)
    (case a_show_transaction => k_is)
    (case l_show_transaction => k_is)
    (case c_show_transaction => k_is)
    (case k_show_transaction => k_is)
    (case a_show_statement => k_is)
    (case l_show_statement => k_is)
    (case c_show_statement => k_is)
    (case k_show_statement => k_is)
    (case a_read_transaction => k_is)
    (case l_read_transaction => k_is)
    (case c_read_transaction => k_is)
    (case k_read_transaction => k_is)
    (case a_lines_of => k_is)
    (case l_lines_of => k_is)
    (case c_lines_of => k_is)
    (case k_lines_of => k_is)
    (case a_read_statement => k_is)
    (case l_read_statement => k_is)
    (case c_read_statement => k_is)
    (case k_read_statement => k_is)
    (case a_take_statement => k_is)
    (case l_take_statement => k_is)
    (case c_take_statement => k_is)
    (case k_take_statement => k_is)
    (case a_take_let => k_is)
    (case l_take_let => k_is)
    (case c_take_let => k_is)
    (case k_take_let => k_is)
    (case a_take_put => k_is)
    (case l_take_put => k_is)
    (case c_take_put => k_is)
    (case k_take_put => k_is)
    (case a_take_each => k_is)
    (case l_take_each => k_is)
    (case c_take_each => k_is)
    (case k_take_each => k_is)
    (case a_law_deck => k_is)
    (case l_law_deck => k_is)
    (case c_law_deck => k_is)
    (case k_law_deck => k_is)
    (case a_law_draw => k_is)
    (case l_law_draw => k_is)
    (case c_law_draw => k_is)
    (case k_law_draw => k_is)
    (case a_law_pick => k_is)
    (case l_law_pick => k_is)
    (case c_law_pick => k_is)
    (case k_law_pick => k_is)
    (case a_law_names => k_is)
    (case l_law_names => k_is)
    (case c_law_names => k_is)
    (case k_law_names => k_is)
    (case a_law_world => k_is)
    (case l_law_world => k_is)
    (case c_law_world => k_is)
    (case k_law_world => k_is)
    (case a_law_integer => k_is)
    (case l_law_integer => k_is)
    (case c_law_integer => k_is)
    (case k_law_integer => k_is)
    (case a_law_cell => k_is)
    (case l_law_cell => k_is)
    (case c_law_cell => k_is)
    (case k_law_cell => k_is)
    (case a_law_leaf => k_is)
    (case l_law_leaf => k_is)
    (case c_law_leaf => k_is)
    (case k_law_leaf => k_is)
    (case a_law_aggregate => k_is)
    (case l_law_aggregate => k_is)
    (case c_law_aggregate => k_is)
    (case k_law_aggregate => k_is)
    (case a_law_expression => k_is)
    (case l_law_expression => k_is)
    (case c_law_expression => k_is)
    (case k_law_expression => k_is)
    (case a_law_statement => k_is)
    (case l_law_statement => k_is)
    (case c_law_statement => k_is)
    (case k_law_statement => k_is)
    (case a_law_transaction => k_is)
    (case l_law_transaction => k_is)
    (case c_law_transaction => k_is)
    (case k_law_transaction => k_is)
    (case a_law_text => k_is)
    (case l_law_text => k_is)
    (case c_law_text => k_is)
    (case k_law_text => k_is)
    (case a_law_row => k_is)
    (case l_law_row => k_is)
    (case c_law_row => k_is)
    (case k_law_row => k_is)
    (case a_law_chain => k_is)
    (case l_law_chain => k_is)
    (case c_law_chain => k_is)
    (case k_law_chain => k_is)
    (case a_law_right => k_is)
    (case l_law_right => k_is)
    (case c_law_right => k_is)
    (case k_law_right => k_is)
    (case a_law => k_is)
    (case l_law => k_is)
    (case c_law => k_is)
    (case k_law => k_is)
    (case z_list => k_is)
    (case z_sum => k_is)
    (case z_len => k_is)
    (case z_range => k_is)
    (case z_int => k_is)
    (case z_bool => k_is)
    (case z_repr => k_is)
    (case z_tuple => k_is)
    (case z_str => k_is)
    (case z_isinstance => k_is)
    (case z_all => k_is)
    (case z_any => k_is)
    (case z_zip => k_is)
    (case z_sorted => k_is)
    (case z_min => k_is)
    (case z_max => k_is)
    (case z_enumerate => k_is)
    (case c0_LIMIT => k_is)
    (case c0_LONGEST_NAME => k_is)
    (case c0_LONGEST_VALUE => k_is)
    (case c0_DEEPEST => k_is)
    (case c0_DEPTH_OF_ROWS => k_is)
    (case z_FIELDS => k_is)
    (case l_F => k_is)
    (case kl_F => k_keys)
    (case hk_F => rfl)
    (case low_F => rfl)
    (case q_0 => k_is)
    (case l_0 => k_is)
    (case v_0 => repeat (first | exact .nil | refine .cons ⟨_, rfl⟩ ?_))
    (case q_1 => k_is)
    (case l_1 => k_is)
    (case v_1 => repeat (first | exact .nil | refine .cons ⟨_, rfl⟩ ?_))
    (case q_2 => k_is)
    (case l_2 => k_is)
    (case v_2 => repeat (first | exact .nil | refine .cons ⟨_, rfl⟩ ?_))
    (case q_3 => k_is)
    (case l_3 => k_is)
    (case v_3 => repeat (first | exact .nil | refine .cons ⟨_, rfl⟩ ?_))
    (case q_4 => k_is)
    (case l_4 => k_is)
    (case v_4 => repeat (first | exact .nil | refine .cons ⟨_, rfl⟩ ?_))
    (case q_5 => k_is)
    (case l_5 => k_is)
    (case v_5 => repeat (first | exact .nil | refine .cons ⟨_, rfl⟩ ?_))
    (case q_6 => k_is)
    (case l_6 => k_is)
    (case v_6 => repeat (first | exact .nil | refine .cons ⟨_, rfl⟩ ?_))
    (case q_7 => k_is)
    (case l_7 => k_is)
    (case v_7 => repeat (first | exact .nil | refine .cons ⟨_, rfl⟩ ?_))
    (case q_8 => k_is)
    (case l_8 => k_is)
    (case v_8 => repeat (first | exact .nil | refine .cons ⟨_, rfl⟩ ?_))
    (case q_9 => k_is)
    (case l_9 => k_is)
    (case v_9 => repeat (first | exact .nil | refine .cons ⟨_, rfl⟩ ?_))
    (case q_10 => k_is)
    (case l_10 => k_is)
    (case v_10 => repeat (first | exact .nil | refine .cons ⟨_, rfl⟩ ?_))
    (case q_11 => k_is)
    (case l_11 => k_is)
    (case v_11 => repeat (first | exact .nil | refine .cons ⟨_, rfl⟩ ?_))
    (case q_12 => k_is)
    (case l_12 => k_is)
    (case v_12 => repeat (first | exact .nil | refine .cons ⟨_, rfl⟩ ?_))
    (case q_13 => k_is)
    (case l_13 => k_is)
    (case v_13 => repeat (first | exact .nil | refine .cons ⟨_, rfl⟩ ?_))
    (case q_14 => k_is)
    (case l_14 => k_is)
    (case v_14 => repeat (first | exact .nil | refine .cons ⟨_, rfl⟩ ?_))
    (case q_15 => k_is)
    (case l_15 => k_is)
    (case v_15 => repeat (first | exact .nil | refine .cons ⟨_, rfl⟩ ?_))
    (case z_FIELDS2 => k_is)
    (case l_F2 => k_is)
    (case kl_F2 => k_keys)
    (case hk_F2 => rfl)
    (case low_F2 => rfl)
    (case q2_0 => k_is)
    (case l2_0 => k_is)
    (case v2_0 => repeat (first | exact .nil | refine .cons ⟨_, rfl⟩ ?_))
    (case q2_1 => k_is)
    (case l2_1 => k_is)
    (case v2_1 => repeat (first | exact .nil | refine .cons ⟨_, rfl⟩ ?_))
    (case q2_2 => k_is)
    (case l2_2 => k_is)
    (case v2_2 => repeat (first | exact .nil | refine .cons ⟨_, rfl⟩ ?_))
    (case q2_3 => k_is)
    (case l2_3 => k_is)
    (case v2_3 => repeat (first | exact .nil | refine .cons ⟨_, rfl⟩ ?_))
    (case q2_4 => k_is)
    (case l2_4 => k_is)
    (case v2_4 => repeat (first | exact .nil | refine .cons ⟨_, rfl⟩ ?_))
    (case z_ALL => k_is)
    (case l_A => k_is)
    (case v_A => repeat (first | exact .nil | refine .cons ⟨_, rfl⟩ ?_))
    (case z_WORDS => k_is)
    (case l_W => k_is)
    (case v_W => repeat (first | exact .nil | refine .cons ⟨_, rfl⟩ ?_))
    (case z_AGG => k_is)
    (case l_G => k_is)
    (case v_G => repeat (first | exact .nil | refine .cons ⟨_, rfl⟩ ?_))
    (case z_LETTERS => k_is)
    (case z_DIGITS => k_is)
    (case z_OPER => k_is)
    (case l_O => k_is)
    (case v_O => repeat (first | exact .nil | refine .cons ⟨_, rfl⟩ ?_))
    (case z_ARGS => k_is)
    (case l_AR => k_is)
    (case kl_AR => k_keys)
    (case low_AR => rfl)
    (case q_AR0 => k_is)
    (case q_AR1 => k_is)
    (case q_AR2 => k_is)
    (case q_AR3 => k_is)
    (case q_AR4 => k_is)
    (case q_AR5 => k_is)
    (case a_R => k_is)
    (case pg_R => k_is)
    (case hd_R => k_is)
    (case po_R => k_is)
    (case sa_R => k_is)
    (case nT_R => k_is)
    (case nP_R => k_is)
    (case mk_R => k_is)
    (case kc_R => k_is)
    (case ma_Minit => k_is)
    (case mi_Minit => k_is)
    (case ml_Minit => k_is)
    (case mc_Minit => k_is)
    (case mkp_Minit => k_is)
    (case ma_Mis_next => k_is)
    (case mi_Mis_next => k_is)
    (case ml_Mis_next => k_is)
    (case mc_Mis_next => k_is)
    (case mkp_Mis_next => k_is)
    (case ma_Mis_any_next => k_is)
    (case mi_Mis_any_next => k_is)
    (case ml_Mis_any_next => k_is)
    (case mc_Mis_any_next => k_is)
    (case mkp_Mis_any_next => k_is)
    (case ma_Mtake => k_is)
    (case mi_Mtake => k_is)
    (case ml_Mtake => k_is)
    (case mc_Mtake => k_is)
    (case mkp_Mtake => k_is)
    (case ma_Mtake_any => k_is)
    (case mi_Mtake_any => k_is)
    (case ml_Mtake_any => k_is)
    (case mc_Mtake_any => k_is)
    (case mkp_Mtake_any => k_is)
    (case ma_Mtake_while => k_is)
    (case mi_Mtake_while => k_is)
    (case ml_Mtake_while => k_is)
    (case mc_Mtake_while => k_is)
    (case mkp_Mtake_while => k_is)
    (case ma_Mtake_word => k_is)
    (case mi_Mtake_word => k_is)
    (case ml_Mtake_word => k_is)
    (case mc_Mtake_word => k_is)
    (case mkp_Mtake_word => k_is)
    (case ma_Mtake_name => k_is)
    (case mi_Mtake_name => k_is)
    (case ml_Mtake_name => k_is)
    (case mc_Mtake_name => k_is)
    (case mkp_Mtake_name => k_is)
    (case ma_Mtake_value => k_is)
    (case mi_Mtake_value => k_is)
    (case ml_Mtake_value => k_is)
    (case mc_Mtake_value => k_is)
    (case mkp_Mtake_value => k_is)
    (case ma_Mtake_end => k_is)
    (case mi_Mtake_end => k_is)
    (case ml_Mtake_end => k_is)
    (case mc_Mtake_end => k_is)
    (case mkp_Mtake_end => k_is)
