import PyProof.Rows.All
import Wide.All
import OpenK.AllK
import Wide.FinOn
import HandS.ForMost
import PyProof.ReprRoads
import HandS.Wide
import HandS.Style
import HandS.Evl
import HandS.Conv
import HandS.Replace
import PyProof.AutoSeq1
import HandS.Star
import HandS.SortKw
import KE.DatumOrd
import KE.KDictPairs
import KE.KDictZip
import PyProof.TupleOfGen
import HandS.DictComp
import HandS.Walk
import PyProof.Rows.FactsT1
import HandS.Zip
import HandS.Small
import PySem.Challenge.RW_lookdone_k16_logs_of_transactions
set_option Elab.async false
set_option linter.all false
set_option maxRecDepth 100000
set_option maxHeartbeats 4000000
namespace GR
open PySem PySem.Spec PyProof.Rows L2

/-! ### data that stands in the abstract heap -/
section
variable {X : Cx} {pins : List (Addr × Obj)} {σ : L2.St} {H : Hp} {s : Shared}
mutual
theorem nodict {K : PySem.W.Frag} : ∀ {v : V} {d : PyData}, Dp K H v d → d.hasDict = false
  | _, _, .non => by simp only [PyData.hasDict]
  | _, _, .bl b => by simp only [PyData.hasDict]
  | _, _, .int i => by simp only [PyData.hasDict]
  | _, _, .str x => by simp only [PyData.hasDict]
  | _, _, .lst _ q => by simp only [PyData.hasDict, nodicts q]
  | _, _, .tup _ q => by simp only [PyData.hasDict, nodicts q]
theorem nodicts {K : PySem.W.Frag} : ∀ {vs : List V} {ds : List PyData}, DpAll K H vs ds → PyData.hasDictAll ds = false
  | _, _, .nil => by simp only [PyData.hasDictAll]
  | _, _, .cons h q => by simp only [PyData.hasDictAll, nodict h, nodicts q, Bool.or_self]
end

/-- repr of a list or a tuple of data -/
def rRepr (X : Cx) : List V → Hp → VK → Prop := fun xs H Q => ∃ (a : Addr) (d : PyData), xs = [.ref a] ∧ Dp X.K H (.ref a) d ∧ d.showable = true ∧ d.depth ≤ 60 ∧ d.shown.length ≤ sizeLine ∧ Q (.str d.shown) H
theorem call_reprD {k : Nat} (hg : X.A.guards = some []) (hr : Room k X.A) : CallR X (.builtin "repr") (rRepr X) := by
  intro pins s σ H xs us Q I r h
  obtain ⟨a, d, rfl, hd, hs, hdep, hz, q⟩ := h
  obtain ⟨u, rfl, rv⟩ := vals1 r
  obtain rfl : u = Value.ref a := rv
  obtain ⟨as, hR⟩ := Dp.reads I d _ _ hd rfl
  have hu := hr.units
  exact repr_of_reads' hR hs (PyData.noDict_hsm (nodict hd)) hg (by omega) (fun _ _ e => e) (fun h' u tk hk => ⟨.str d.shown, H, I.kept hk, ⟨_, rfl⟩, q⟩) hz
end

/-! ### defs that show things: a promise kept wherever nothing is being shown -/
structure FnG (P : Program) (w : World) (K : PySem.W.Frag) (mg : Str → Option Value) (base : Heap) (CX : CXT) (k : Nat) (f : Addr) (fd : FuncData) (ps : List Str) (sp : Sp) : Prop where
  size : ∀ vs H Q E, sp vs H Q E → vs.length = ps.length
  go : ∀ (A : Around) (outer : List Env) (s : Shared) (H : Hp) (args : Args) (us : List Value) (vs : List V) (Q : VK) (E : XK),
    A.guards = some [] → Room k A → Env0 P w K mg base A outer s H → BindsTo s fd args (ps.zip us) → Vals vs us → sp vs H Q E →
    codeAny (model P w) A (.call (.ref f) args) (CR CX outer P w H s Q E) s

section
variable {P : Program} {w : World} {K : PySem.W.Frag} {mg : Str → Option Value} {base : Heap}
theorem FnG.of {CX : CXT} {k : Nat} {f : Addr} {fd : FuncData} {ps : List Str} {sp : Sp} (F : FnOk P w K mg base CX k f fd ps sp) : FnG P w K mg base CX k f fd ps sp :=
  ⟨F.len, fun A outer s H args us vs Q E _ => F.run A outer s H args us vs Q E⟩

/-- a def by its body, where nothing is being shown -/
theorem ok_g {x qual : Str} {st : Stmt} {f : Addr} {fd : FuncData} {N ps : List Str} {k : Nat} {sp : Sp} (F : Fun K x qual st f fd) (S : FnScope N ps (defScope st)) (size : ∀ vs H Q E, sp vs H Q E → vs.length = ps.length)
    (body : ∀ (cdv : Value) (A : Around) (outer : List Env) (s : Shared) (H : Hp) (vs : List V) (Q : VK) (E : XK), A.guards = some [] → Room k (A.deeper (envOfC qual (defScope st) s.heap.objs.size f cdv)) → sp vs H Q E →
      ∃ t, PSs (cxOf CX0 P w K mg base N qual (defScope st) f cdv A outer s H E).nox (defBody st) t ∧ t { nx := fun _ H' => Q .non H', rt := Q } (start N vs) H) : FnG P w K mg base CX0 (k + 1) f fd ps sp := by
  obtain ⟨oc, od, kV, doc, pm, an, cdv, ct, osl, rfl, lk, hcd⟩ := F.ex
  constructor
  · exact size
  intro A outer s H args us vs Q E gA room e0 bnd rel hsp
  have inK : K.In s.heap := e0.mod.kin.keeps (fun b o q => (e0.bs b o q).1)
  have nolim := e0.mod.nolimit.keeps (fun b o q => (e0.bs b o q).1)
  obtain ⟨t, ht, hq⟩ := body cdv A outer s H vs Q E gA (room.deeper _) hsp
  refine codeAny_call_function room.depth (inK f _ lk) rfl S.co S.gen rfl (PySem.W.codeRec_of inK hcd) (bnd _ _ _ _ ?_)
  refine wpAny_newFunctionEnv_cells S.kind ?par (fun env he s1 inC => ?run)
  case par =>
    rintro ⟨n, v⟩ hy
    rcases S.par n (List.of_mem_zip hy).1 with q | q
    · exact Or.inl q
    · exact Or.inr ⟨q, PySem.W.cellsFrom_some _ _ _ (Or.inl q)⟩
  case run =>
    cases he
    refine And.intro (nolim.keeps inC.toInCall.keep) (codeAny_func ?_)
    have I0 := inv_start (CX := CX0) (P := P) (w := w) (K := K) (mg := mg) (base := base) (E := E) S room.hd e0 (size _ _ _ _ hsp) rel inC
    refine wpAny_mono (ht.nox.run [] s1 (start N vs) H _ I0 hq) ?_ (fun _ _ z => z)
    rintro fl s' hs
    have close : ∀ (σ' : L2.St) (H' : Hp) (v : V) (u : Value), Inv (cxOf CX0 P w K mg base N qual (defScope st) f cdv A outer s H E) [] σ' H' s' → RelV v u → Q v H' → CE outer P w H s Q u s' := by
      intro σ' H' v u J rv q
      exact ⟨v, H', J.os, J.bare, J.base, J.hok, rv, q⟩
    cases fl
    case ret u => obtain ⟨v, σ', H', J, rv, q⟩ := hs; exact close _ _ _ _ J rv q
    case next => obtain ⟨σ', H', J, q⟩ := hs; exact close _ _ V.non Value.none J rfl q
    case brk => obtain ⟨_, _, _, q⟩ := hs; exact q.elim
    case cont => obtain ⟨_, _, _, q⟩ := hs; exact q.elim
end

section
variable {X : Cx} {CX : CXT} {k : Nat} {f : Addr} {fd : FuncData} {ps : List Str} {sp : Sp} {E : XK} {x : Str} {p pos : Pos} {e : Expr} {es : List Expr} {t : TA}
/-- its call -/
theorem pe_callG (F : FnG X.prog X.w X.K X.mg X.base CX k f fd ps sp) (hg : X.A.guards = some []) (hr : Room k X.A) (gx : Gl X x) (hm : X.mg x = some (.ref f)) (hk : PySem.W.keepIn X.K (.ref f) = true) (hb : Binds X.K fd ps []) (hx : Passes CX X E)
    (ha : PA X (e :: es) t) (hdb : (x == ("__debug__" : Str)) = false := by decide) (he : starEach (e :: es) X.env = (false, eval e X.env) :: starEach es X.env := by rfl) (hpl : (backTo pos (starEach es X.env)).any (·.1) = false := by rfl) :
    PE X (.Call (.Name x p) (e :: es) [] pos) (tCall sp [] E t) := by
  constructor
  intro pins s σ H Q I h
  refine wpAny_Call_Name_kw (ld_glob I gx hm (PySem.W.callWith_K (h₀ := X.base) I.ok.mod.kin hk (thn (ha.run pos pins s σ H _ I h) ?_) he hpl) hdb)
  rintro us s1 ⟨vs, H1, I1, r, q⟩
  refine ⟨I1.kIn, ?_⟩
  have q' : sp vs H1 Q E := by simpa using q
  have hl : us.length = ps.length := by
    rw [← r.length]
    exact F.size _ _ _ _ q'
  have hB := hb s1 us I1.kIn (by simpa using hl)
  rw [List.append_nil] at hB
  refine wpAny_call (codeAny_mono (F.go X.A X.stack s1 H1 ⟨us, []⟩ us vs Q E hg hr I1.env0 hB r q') ?_)
  rintro (er | fl) s2 hq
  · exact hx pins σ H1 s1 er s2 I1 hq
  · cases fl
    case ret u => exact I1.after hq
    case next => exact hq.elim
    case brk => exact hq.elim
    case cont => exact hq.elim
end

/-- a comprehension without a test -/
theorem yes_then {σ : L2.St} {H : Hp} {A B : Hp → Prop} (h : A H) : tYes σ H (fun b H3 => if b = true then A H3 else B H3) := by
  show (if true = true then A H else B H)
  rw [if_pos rfl]
  exact h

/-! ### the law's own call -/
/-- the abstract heap in which the script alone is tracked, as it stands -/
def scriptHp (a : Addr) (o : Obj) (xs : List V) : Hp := fun b => if b = a then some (.frz o (.lst xs)) else none
theorem scriptHp_at {a : Addr} {o : Obj} {xs : List V} : scriptHp a o xs a = some (.frz o (.lst xs)) := if_pos rfl
theorem scriptHp_some {a b : Addr} {o : Obj} {xs : List V} {u : HO} (h : scriptHp a o xs b = some u) : b = a ∧ u = .frz o (.lst xs) := by
  unfold scriptHp at h
  split at h
  · rename_i e
    exact ⟨e, (Option.some.inj h).symm⟩
  · cases h

theorem ns_hid {h : Heap} {H : Hp} {b : Addr} {m : Str → Option Value} (q : h.Ns b m) (hb : H b = none) : (hidT h H).Ns b m := by
  obtain ⟨o, es, ep, e, r⟩ := q
  exact ⟨o, es, ep, hidT_get e hb, r⟩

theorem law_callG {P : Program} {w : World} {K : PySem.W.Frag} {mg mb : Str → Option Value} {k : Nat} {fa a : Addr} {fd : FuncData} {x : Str} {sp : Sp} {s₁ : Shared} {vs : List Value} {ns : List Int}
    (KX : K.In s₁.heap) (hns : s₁.heap.Ns mainGlobals mg) (hb : s₁.heap.Ns builtinsNs mb) (hbb : ∀ x : Str, x ≠ "__name__" → mb x = bootBuiltins x) (hlim : s₁.heap.NoLimit) (hg : s₁.gens = #[])
    (ha : s₁.heap.get? a = some { cls := .type "list", data := .seq vs.toArray }) (hi : IntsAre vs ns) (hl : ns.length ≤ sizeLine) (hr : Room k callerA)
    (F : ∀ base : Heap, K.In base → base.Ns mainGlobals mg → FnG P w K mg base CX0 k fa fd [x] sp) (hbind : ∀ (s : Shared) (u : Value), BindsTo s fd ⟨[u], []⟩ [(x, u)])
    (hsp : ∀ H : Hp, Only H → SqL K H a (ns.map V.int) → sp [.ref a] H (fun v _ => v = .bl true) fun _ _ _ => False) :
    codeAny (model P w) callerA (.call (.ref fa) ⟨[.ref a], []⟩) (fun r s' => r = .ok (.ret (.bool true)) ∧ OldK s₁.heap s'.heap ∧ s'.os = s₁.os ∧ AllBare s'.gens) s₁ := by
  have main : ∀ H : Hp, Only H → SqL K H a (ns.map V.int) → HOk P w H s₁.heap → (∀ b u, H b = some u → b = a ∧ K.lookup a = none) →
      codeAny (model P w) callerA (.call (.ref fa) ⟨[.ref a], []⟩) (fun r s' => r = .ok (.ret (.bool true)) ∧ OldK s₁.heap s'.heap ∧ s'.os = s₁.os ∧ AllBare s'.gens) s₁ := by
    intro H only seq ok one
    have free : ∀ b, (∀ o n, s₁.heap.get? b = some o → o.data ≠ .seq vs.toArray n) → H b = none := by
      intro b nb
      cases q : H b with
      | none => rfl
      | some u =>
        obtain ⟨rfl, _⟩ := one b u q
        exact absurd rfl (nb _ _ ha)
    have freeD : ∀ {b : Addr} {m : Str → Option Value}, s₁.heap.Ns b m → H b = none := by
      rintro b m ⟨o, es, ep, e, d, _⟩
      refine free b fun o' n e' d' => ?_
      rw [e] at e'
      cases e'
      rw [d] at d'
      cases d'
    have inB : K.In (hidT s₁.heap H) := by
      intro b o e
      refine hidT_get (KX b o e) ?_
      cases q : H b with
      | none => rfl
      | some u =>
        obtain ⟨rfl, z⟩ := one b u q
        rw [z] at e
        cases e
    have gB := ns_hid hns (freeD hns)
    have md : Mod K mg (hidT s₁.heap H) := by
      refine ⟨inB, gB, ⟨mb, ns_hid hb (freeD hb), hbb⟩, ?_⟩
      obtain ⟨mc, h1, h2⟩ := hlim
      exact ⟨mc, ns_hid h1 (freeD h1), h2⟩
    have start0 : Env0 P w K mg (hidT s₁.heap H) callerA [] s₁ H := by
      constructor
      · rfl
      · exact md
      · exact fun b o e => of_hidT e
      · exact Nat.le_of_eq (hidT_size _ _)
      · trivial
      · intro b hb
        exact absurd (show b ∈ ([] : List Addr) from hb) (by simp)
      · exact ok
      · exact .of_eq hg
    have run := (F _ inB gB).go callerA [] s₁ H ⟨[.ref a], []⟩ [.ref a] [.ref a] (fun v _ => v = .bl true) (fun _ _ _ => False) rfl hr start0 (hbind s₁ (.ref a)) (.cons rfl .nil) (hsp H only seq)
    refine codeAny_mono run ?_
    rintro (er | fl) s' h
    · exact False.elim h
    cases fl with
    | next => exact False.elim h
    | brk => exact False.elim h
    | cont => exact False.elim h
    | ret u =>
      obtain ⟨v, H', os, bare, un, ok', rv, q⟩ := h
      cases (show v = .bl true from q)
      cases (show u = Value.bool true from rv)
      refine ⟨rfl, OldK.of_keep ?_, os, bare⟩
      intro b o e
      cases z : H b with
      | none => exact un.keep b o e z (fun m => absurd (show b ∈ ([] : List Addr) from m) (by simp)) (by simp)
      | some u =>
        rcases only b with z' | ⟨ob, xs, z'⟩
        · rw [z] at z'
          cases z'
        · have e1 := (ok b _ z').1
          have e2 := (ok' b _ (un.frzs b ob _ z')).1
          rw [e] at e1
          rw [e1]
          exact e2
  have rv := vals_ints hi
  cases hk : K.lookup a with
  | some o =>
    have e := KX a o hk
    rw [ha] at e
    cases e
    refine main (fun _ => none) (fun _ => .inl rfl) (.inr ⟨_, vs.toArray, _, hk, rfl, rfl, rfl, ?_, by simpa using rv⟩) ?_ ?_
    · rw [List.size_toArray, hi.length]
      exact hl
    · intro b u z
      cases z
    · intro b u z
      cases z
  | none =>
    refine main (scriptHp a { cls := .type "list", data := .seq vs.toArray } (ns.map V.int)) ?_ (.inl (.inr ⟨_, scriptHp_at⟩)) ?_ ?_
    · intro b
      cases z : scriptHp a { cls := .type "list", data := .seq vs.toArray } (ns.map V.int) b with
      | none => exact .inl rfl
      | some u => exact .inr ⟨_, _, by rw [(scriptHp_some z).2]⟩
    · intro b u z
      obtain ⟨rfl, rfl⟩ := scriptHp_some z
      refine ⟨ha, ?_, vs, _, rv, ha⟩
      rw [List.length_map]
      exact hl
    · intro b u z
      exact ⟨(scriptHp_some z).1, hk⟩

theorem walk_g {l : PySem.W.OpenLaw} {n k : Nat} {q : Program} {loose : List Str} {XP : (Str → Option Value) → Heap → Prop} {YP : World → Heap → Prop} {d : DefRec} {K : Params → PySem.W.Frag} {sp : PySem.W.Frag → Sp} {x : Str}
    (hn : l.most = some n) (hn2 : n ≤ sizeLine) (hdf : d.params.defaults = []) (hr : Room k callerA)
    (hY : ∀ (w : World) (h : Heap), YP w h → (K w.params).In h)
    (F : ∀ (w : World) (mg : Str → Option Value) (fa : Addr) (h : Heap), (K w.params).In h → h.Ns mainGlobals mg → mg d.name = some (.ref fa) →
      ∃ fd : FuncData, (∀ (s : Shared) (u : Value), BindsTo s fd ⟨[u], []⟩ [(x, u)]) ∧
        ∀ base : Heap, (K w.params).In base → base.Ns mainGlobals mg → FnG l.prog w (K w.params) mg base CX0 k fa fd [x] (sp (K w.params)))
    (hsp : ∀ (K : PySem.W.Frag) (H : Hp) (a : Addr) (ns : List Int), ns.length ≤ n → Only H → SqL K H a (ns.map V.int) → sp K [.ref a] H (fun v _ => v = .bl true) fun _ _ _ => False) :
    PySem.W.WalkO q loose XP YP l.row.toRowW d [] (fun f vs => PySem.call f vs) := by
  apply Att.attach_call hn hdf
  intro w s₀ s₁ mg mb fa o pm cd doc a vs ns G Y ho hd hcd hmg hobj hints hlen hg
  obtain ⟨fd, bnd, keeps⟩ := F w mg fa _ (hY w _ Y) G.T.g hmg
  exact law_callG (hY w _ Y) G.T.g G.T.b G.T.builtins G.T.nolimit hg hobj hints (Nat.le_trans hlen hn2) hr keeps bnd (fun H => hsp _ H a ns hlen)
end GR

namespace L16
open PySem PySem.Spec PyProof.Rows L2 GR
abbrev LIM : Int := 1000000000000000000
def topS (i : Nat) : Stmt := PySem.Challenge.pw_lookdone_k16_logs_of_transactions.main.body.getD i (.Pass ⟨0, 0, 0, 0⟩)
theorem same_upd {H : Hp} {p : Addr} {o : HO} (h : H p = none) : Same H (upd H p o) := fun b x e => by
  rw [upd_ne (ne_of_none e h)]
  exact e
theorem le2 : 2 ≤ sizeLine := by decide
theorem at0 {xs : List V} {v : V} : atI (v :: xs) 0 = some v := atI_nat (j := 0) rfl
theorem at1 {xs : List V} {v u : V} : atI (u :: v :: xs) 1 = some v := atI_nat (j := 1) rfl
theorem at2 {xs : List V} {v u t : V} : atI (t :: u :: v :: xs) 2 = some v := atI_nat (j := 2) rfl
theorem at3 {xs : List V} {v u t s : V} : atI (s :: t :: u :: v :: xs) 3 = some v := atI_nat (j := 3) rfl
/-! ### the law's deck -/
/-- the deck at d: the cells at c, a number, the count of draws, at most N -/
def Deck (H : Hp) (d c : Addr) (N : Int) : Prop := ∃ (cells : List Int) (m n : Int), H d = some (.lst [.ref c, .int m, .int n]) ∧ H c = some (.lst (cells.map V.int)) ∧ cells.length ≤ 63 ∧ 0 ≤ n ∧ n ≤ N
theorem Deck.ne {H : Hp} {d c : Addr} {N : Int} (h : Deck H d c N) : c ≠ d := by
  obtain ⟨cells, m, n, h1, h2, _⟩ := h
  rintro rfl
  rw [h1] at h2
  have e := HO.lst.inj (Option.some.inj h2)
  cases cells with
  | nil => cases e
  | cons x r =>
    have := (List.cons.inj e).1
    cases this
theorem Deck.mono {H : Hp} {d c : Addr} {N M : Int} (h : Deck H d c N) (hm : N ≤ M) : Deck H d c M := by
  obtain ⟨cells, m, n, h1, h2, h3, h4, h5⟩ := h
  exact ⟨cells, m, n, h1, h2, h3, h4, Int.le_trans h5 hm⟩
/-- all but the deck is as it was -/
def Keep (d c : Addr) (H H' : Hp) : Prop := ∀ b o, b ≠ d → b ≠ c → H b = some o → H' b = some o
theorem Keep.refl {d c : Addr} {H : Hp} : Keep d c H H := fun _ _ _ _ e => e
theorem Keep.trans {d c : Addr} {H H1 H2 : Hp} (a : Keep d c H H1) (b : Keep d c H1 H2) : Keep d c H H2 := fun x o h1 h2 e => b x o h1 h2 (a x o h1 h2 e)
theorem Keep.of {d c : Addr} {H H' : Hp} (s : Same H H') : Keep d c H H' := fun b o _ _ e => s b o e
theorem Deck.same {H H' : Hp} {d c : Addr} {N : Int} (h : Deck H d c N) (s : Same H H') : Deck H' d c N := by
  obtain ⟨cells, m, n, h1, h2, h3⟩ := h
  exact ⟨cells, m, n, s _ _ h1, s _ _ h2, h3⟩
/-- a tuple, a list that is not the deck's stays -/
theorem Keep.tup {d c p : Addr} {H H' : Hp} {N : Int} {xs : List V} (s : Keep d c H H') (D : Deck H d c N) (h : H p = some (.tup xs)) : H' p = some (.tup xs) := by
  obtain ⟨cells, m, n, h1, h2, _⟩ := D
  exact s p _ (ne_of h h1 (fun z => by cases z)) (ne_of h h2 (fun z => by cases z)) h
theorem dp_ints {K : PySem.W.Frag} {H : Hp} : ∀ ns : List Int, DpAll K H (ns.map V.int) (ns.map PyData.int)
  | [] => .nil
  | n :: ns => .cons (.int n) (dp_ints ns)
theorem lay_ints : ∀ ns : List Int, PyData.canLayAll0 (ns.map PyData.int) = true
  | [] => by simp only [List.map_nil, PyData.canLayAll0]
  | n :: ns => by simp only [List.map_cons, PyData.canLayAll0, PyData.canLay0, lay_ints ns, Bool.and_self]
theorem depth_ints : ∀ ns : List Int, PyData.depthAll (ns.map PyData.int) ≤ 1
  | [] => by simp only [List.map_nil, PyData.depthAll]; omega
  | n :: ns => by
    have := depth_ints ns
    simp only [List.map_cons, PyData.depthAll, PyData.depth]
    omega
theorem shaped_ints (ns : List Int) : SeqAt.shaped (.list (ns.map PyData.int)) = true := by
  have := depth_ints ns
  unfold SeqAt.shaped
  rw [Bool.and_eq_true]
  refine ⟨by simp only [PyData.canLay0, lay_ints], decide_eq_true ?_⟩
  simp only [PyData.depth]
  omega
theorem neq_nil : ∀ ns : List Int, (!PyData.eqv (.list (ns.map PyData.int)) (.list [])) = !ns.isEmpty
  | [] => by simp only [List.map_nil, PyData.eqv, PyData.eqvAll, List.isEmpty_nil]
  | n :: ns => by simp only [List.map_cons, PyData.eqv, PyData.eqvAll, List.isEmpty_cons]

def num1 (z n : Int) : Int := (z % 2147483629 + 7919 * (n + 1) * (n + 1) + 31) * 48271 % 2147483647
theorem num1_rng (z n : Int) : -(2 ^ 64) < num1 z n ∧ num1 z n < 2 ^ 64 := by
  unfold num1
  omega
def num2 (x n : Int) : Int := (x * x + 69621 * x + (n + 1)) % 2147483587
theorem num2_rng (x n : Int) : -(2 ^ 64) < num2 x n ∧ num2 x n < 2 ^ 64 := by
  unfold num2
  omega

section
variable {P : Program} {w : World} {K : PySem.W.Frag} {mg : Str → Option Value} {base : Heap}
abbrev s_law_draw : Stmt := topS 8
theorem sc_law_draw : FnScope ["_law_deck_here", "_law_most", "_law_cell", "_law_number"] ["_law_deck_here", "_law_most"] (defScope s_law_draw) := ⟨rfl, rfl, rfl, by decide +kernel, rfl, by decide +kernel, by decide +kernel⟩
def sp_draw : Sp := fun vs H Q _ => ∃ (d c : Addr) (N most : Int), vs = [.ref d, .int most] ∧ Deck H d c N ∧ N < 2 ^ 60 ∧ 0 < most ∧ most < 2 ^ 100 ∧
  ∀ H' r, Keep d c H H' → Deck H' d c (N + 1) → 0 ≤ r → r < most → Q (.int r) H'
theorem ok_draw {f : Addr} {fd : FuncData} {k : Nat} (F : Fun K "_law_draw" "_law_draw" s_law_draw f fd) :
    FnOk P w K mg base CX0 (k + 1) f fd ["_law_deck_here", "_law_most"] sp_draw := by
  have nd := sc_law_draw.nd
  refine F.ok sc_law_draw (fun vs H Q E h => ?_) (fun cdv A outer s H vs Q E hr h => ?_)
  · obtain ⟨d, c, N, most, rfl, _⟩ := h
    rfl
  obtain ⟨d, c, N, most, rfl, D, hN, hm0, hm1, q⟩ := h
  have hcd := D.ne
  obtain ⟨cells, m, n, hd, hc, hlen, hn0, hn1⟩ := D
  refine ⟨_, (pss_cons (ps_asg (pe_op op_add (pe_ix ix_list (pv 0) pe_int (fun _ _ => rfl)) pe_int) (pg_sub (pv 0) pe_int set_list))
      (pss_cons (ps_set (i := 2) nd rfl (.inl rfl) (pe_ix ix_list (pv 0) pe_int (fun _ _ => rfl)))
      (Evl.pss_cut (ps_if (pt_cmpR (op_neD hr.units) (pe_ix ix_list (pv 0) pe_int (fun _ _ => rfl)) (pe_lst pa_nil) (nomark _))
      (pss_cons (ps_set (i := 2) nd rfl (.inl rfl) (pe_bm0 PySem.F.plainAttrs_list PySem.F.slot_list_pop PySem.F.type_list_pop mt_pop (pe_ix ix_list (pv 0) pe_int (fun _ _ => rfl))))
        (pss_one (ps_if (pt_cmpR op_ge (pv 2) (pe_op op_pow pe_int pe_int) (nomark _))
        (pss_cons (ps_expr (pe_bm PySem.F.plainAttrs_list PySem.F.slot_list_append PySem.F.type_list_append mt_append (pe_ix ix_list (pv 0) pe_int (fun _ _ => rfl)) (pa_cons (pe_op op_fdivW (pv 2) (pv 1)) pa_nil)))
          (pss_one (ps_ret (pe_op op_mod (pv 2) (pv 1)))))
        pss_nil)))
      pss_nil)
      (pss_cons (ps_set (i := 3) nd rfl (.inl rfl) (pe_op op_mod (pe_op op_mul (pe_op op_add (pe_op op_add (pe_op op_mod (pv 2) pe_int) (pe_op op_mul (pe_op op_mul pe_int (pe_ix ix_list (pv 0) pe_int (fun _ _ => rfl))) (pe_ix ix_list (pv 0) pe_int (fun _ _ => rfl)))) pe_int) pe_int) pe_int))
      (pss_cons (ps_set (i := 3) nd rfl (.inl rfl) (pe_op op_mod (pe_op op_add (pe_op op_add (pe_op op_mul (pv 3) (pv 3)) (pe_op op_mul pe_int (pv 3))) (pe_ix ix_list (pv 0) pe_int (fun _ _ => rfl))) pe_int))
      (pss_one (ps_ret (pe_op op_mod (pe_op op_fdivW (pe_op op_mod (pe_op op_mul (pv 3) (pe_op op_add (pe_op op_fdivW (pv 3) pe_int) pe_int)) pe_int) pe_int) (pv 1))))))))), ?_⟩
  refine ⟨.ref d, rfl, d, _, 2, _, rfl, rfl, .inl (.inl hd), at2, _, _, rfl, rfl, .ref d, rfl, d, _, 2, 2, rfl, rfl, hd, rfl, ?_⟩
  -- the deck with one draw more
  have h1d : upd H d (.lst [.ref c, .int m, .int (n + 1)]) d = some (.lst [.ref c, .int m, .int (n + 1)]) := upd_same
  have h1c : upd H d (.lst [.ref c, .int m, .int (n + 1)]) c = some (.lst (cells.map V.int)) := by
    rw [upd_ne hcd]
    exact hc
  have k1 : Keep d c H (upd H d (.lst [.ref c, .int m, .int (n + 1)])) := fun b o nb _ e => by
    rw [upd_ne nb]
    exact e
  refine ⟨.ref d, rfl, d, _, 1, _, rfl, rfl, .inl (.inl h1d), at1, ?_⟩
  have wd : CDivW 0 most := wide_div hm0 (b := 100) (by omega) (by decide) (by decide)
  refine ⟨fun σ' H' => ∃ (z : Int) (cells' : List Int), σ' = [some (.ref d), some (.int most), some (.int z), none] ∧ Keep d c H H' ∧ H' d = some (.lst [.ref c, .int m, .int (n + 1)]) ∧ H' c = some (.lst (cells'.map V.int)) ∧ cells'.length ≤ 63, ?_, ?_⟩
  · refine ⟨.ref d, rfl, d, _, 0, _, rfl, rfl, .inl (.inl h1d), at0, Nat.zero_le _, fun e ne => ?_⟩
    have s2 : Same (upd H d (.lst [.ref c, .int m, .int (n + 1)])) (upd (upd H d (.lst [.ref c, .int m, .int (n + 1)])) e (.lst [])) := same_upd ne
    have h2d := s2 _ _ h1d
    have h2c := s2 _ _ h1c
    have k2 := k1.trans (Keep.of s2)
    refine ⟨_, _, .lst (.inl (.inl h2c)) (dp_ints cells), .lst (.inl (.inl upd_same)) .nil, shaped_ints cells, shaped_ints [], _, rfl, ?_⟩
    rw [neq_nil]
    cases hcs : cells with
    | nil => exact iteF ⟨m, cells, rfl, k2, h2d, h2c, hlen⟩
    | cons x0 r0 =>
      refine iteT ?_
      have hne : cells ≠ [] := by
        rw [hcs]
        exact List.cons_ne_nil _ _
      have hlast : (cells.map V.int)[(cells.map V.int).length - 1]? = some (.int (cells.getLast hne)) := by
        rw [List.length_map, List.getElem?_map, ← List.getLast?_eq_getElem?, List.getLast?_eq_getLast hne]
        rfl
      refine ⟨.ref d, rfl, d, _, 0, _, rfl, rfl, .inl (.inl h2d), at0, .inl ⟨rfl, _, .inl (.inl h2c)⟩, c, _, _, rfl, rfl, h2c, hlast, ?_⟩
      have hdrop : (cells.map V.int).dropLast = cells.dropLast.map V.int := by rw [List.map_dropLast]
      rw [hdrop]
      have h3d : upd (upd (upd H d (.lst [.ref c, .int m, .int (n + 1)])) e (.lst [])) c (.lst (cells.dropLast.map V.int)) d = some (.lst [.ref c, .int m, .int (n + 1)]) := by
        rw [upd_ne hcd.symm]
        exact h2d
      have h3c : upd (upd (upd H d (.lst [.ref c, .int m, .int (n + 1)])) e (.lst [])) c (.lst (cells.dropLast.map V.int)) c = some (.lst (cells.dropLast.map V.int)) := upd_same
      have k3 : Keep d c H (upd (upd (upd H d (.lst [.ref c, .int m, .int (n + 1)])) e (.lst [])) c (.lst (cells.dropLast.map V.int))) := fun b o n1 n2 e1 => by
        rw [upd_ne n2]
        exact k2 b o n1 n2 e1
      have l3 : cells.dropLast.length + 1 ≤ 63 := by
        rw [List.length_dropLast, hcs, List.length_cons]
        rw [hcs, List.length_cons] at hlen
        omega
      generalize cells.getLast hne = z
      refine ⟨.int z, rfl, _, _, rfl, rfl, ⟨by decide, by decide, by decide⟩, _, _, rfl, rfl, _, rfl, ite2 (fun e5 => ?_) (fun e5 => ?_)⟩
      · refine ⟨.ref d, rfl, d, _, 0, _, rfl, rfl, .inl (.inl h3d), at0, .inl ⟨rfl, _, .inl (.inl h3c)⟩, .int z, rfl, .int most, rfl, z, most, rfl, rfl, wd, c, _, _, rfl, rfl, h3c, ?_, ?_⟩
        · rw [List.length_map]
          exact small1000 (by omega)
        · refine ⟨.int z, rfl, .int most, rfl, z, most, rfl, rfl, hm0, ?_⟩
          refine q _ _ ?_ ?_ (Int.emod_nonneg _ (by omega)) (Int.emod_lt_of_pos _ hm0)
          · intro b o n1 n2 e1
            rw [upd_ne n2]
            exact k3 b o n1 n2 e1
          · refine ⟨cells.dropLast ++ [z / most], m, n + 1, ?_, ?_, ?_, by omega, by omega⟩
            · rw [upd_ne hcd.symm]
              exact h3d
            · rw [upd_same, List.map_append]
              rfl
            · rw [List.length_append, List.length_singleton]
              exact l3
      · exact ⟨z, cells.dropLast, rfl, k3, h3d, h3c, by omega⟩
  · rintro σ' H' ⟨z, cells', rfl, kk, h5d, h5c, hl5⟩
    have hn2 : -(2 ^ 64) < n + 1 ∧ n + 1 < 2 ^ 64 := by omega
    refine ⟨.int z, rfl, z, 2147483629, rfl, rfl, (show (0 : Int) < 2147483629 by decide), .ref d, rfl, d, _, 2, _, rfl, rfl, .inl (.inl h5d), at2, 7919, n + 1, rfl, rfl, .inl ⟨by decide, by decide⟩, .ref d, rfl, d, _, 2, _, rfl, rfl, .inl (.inl h5d), at2, 7919 * (n + 1), n + 1, rfl, rfl, .inr hn2, _, _, rfl, rfl, _, _, rfl, rfl, _, 48271, rfl, rfl, .inr ⟨by decide, by decide⟩, _, 2147483647, rfl, rfl, (show (0 : Int) < 2147483647 by decide), ?_⟩
    have b1 := num1_rng z n
    refine ⟨.int (num1 z n), rfl, .int (num1 z n), rfl, num1 z n, num1 z n, rfl, rfl, .inl b1, .int (num1 z n), rfl, 69621, num1 z n, rfl, rfl, .inr b1, _, _, rfl, rfl, .ref d, rfl, d, _, 2, _, rfl, rfl, .inl (.inl h5d), at2, _, _, rfl, rfl, _, 2147483587, rfl, rfl, (show (0 : Int) < 2147483587 by decide), ?_⟩
    have b2 := num2_rng (num1 z n) n
    refine ⟨.int (num2 (num1 z n) n), rfl, .int (num2 (num1 z n) n), rfl, num2 (num1 z n) n, 5, rfl, rfl, ⟨by decide, by decide⟩, _, _, rfl, rfl, num2 (num1 z n) n, _, rfl, rfl, .inl b2, _, 2147483579, rfl, rfl, (show (0 : Int) < 2147483579 by decide), _, 64, rfl, rfl, ⟨by decide, by decide⟩, .int most, rfl, _, most, rfl, rfl, hm0, ?_⟩
    exact q _ _ kk ⟨cells', m, n + 1, h5d, h5c, hl5, by omega, by omega⟩ (Int.emod_nonneg _ (by omega)) (Int.emod_lt_of_pos _ hm0)
end
theorem Keep.seq {K : PySem.W.Frag} {d c a : Addr} {H H' : Hp} {xs : List V} (s : Keep d c H H') (h : SqL K H a xs) (h1 : a ≠ d) (h2 : a ≠ c) : SqL K H' a xs := by
  rcases h with (h | ⟨o, h⟩) | h
  · exact .inl (.inl (s _ _ h1 h2 h))
  · exact .inl (.inr ⟨o, s _ _ h1 h2 h⟩)
  · exact .inr h
theorem cut63 (ns : List Int) : ∃ ms : List Int, cutV (ns.map V.int) none (some 63) = ms.map V.int ∧ ms.length ≤ 63 := by
  refine ⟨ns.take (min 63 ns.length), ?_, ?_⟩
  · unfold cutV
    rw [HT.sIx_none, show HT.sIx (ns.map V.int).length (ns.map V.int).length (some 63) = min 63 (ns.map V.int).length from HT.sIx_nat _ _ 63, List.drop_zero, List.map_take, List.length_map, Nat.sub_zero]
  · rw [List.length_take]
    omega
theorem small_le {n : Nat} (h : n ≤ 1000) : n ≤ sizeLine := Nat.le_of_lt (small1000 h)
section
variable {P : Program} {w : World} {K : PySem.W.Frag} {mg : Str → Option Value} {base : Heap}
abbrev s_law_deck : Stmt := topS 7
theorem sc_law_deck : FnScope ["_law_script", "_law_cells"] ["_law_script"] (defScope s_law_deck) := ⟨rfl, rfl, rfl, by decide +kernel, rfl, by decide +kernel, by decide +kernel⟩
def sp_deck (K : PySem.W.Frag) : Sp := fun vs H Q _ => ∃ (a : Addr) (ns : List Int), vs = [.ref a] ∧ SqL K H a (ns.map V.int) ∧ ∀ H' d c, Same H H' → H d = none → Deck H' d c 0 → Q (.ref d) H'
theorem ok_deck {f : Addr} {fd : FuncData} {k : Nat} (F : Fun K "_law_deck" "_law_deck" s_law_deck f fd) (mlist : mg "list" = none) (msum : mg "sum" = none) (mlen : mg "len" = none) :
    FnOk P w K mg base CX0 (k + 1) f fd ["_law_script"] (sp_deck K) := by
  have nd := sc_law_deck.nd
  refine F.ok sc_law_deck (fun vs H Q E h => ?_) (fun cdv A outer s H vs Q E hr h => ?_)
  · obtain ⟨a, ns, rfl, _⟩ := h
    rfl
  obtain ⟨a, ns, rfl, hS, q⟩ := h
  obtain ⟨ms, hms, hl⟩ := cut63 ns
  refine ⟨_, (pss_cons (ps_set (i := 1) nd rfl (.inl rfl) (pe_callTy call_list_of (by rfl) mlist boot_list (pa_cons (pe_slice sl_list (pv 0) po_none (po_some pe_int)) pa_nil)))
      (pss_one (ps_ret (pe_lst (pa_cons (pe_revL (pv 1)) (pa_cons (pe_op op_add (pe_op op_mod (pe_callB (cr_sum rfl) (by rfl) msum boot_sum (pa_cons (pv 1) pa_nil)) pe_int) (pe_op op_mul pe_int (pe_callB call_len_seq (by rfl) mlen PySem.boot_len (pa_cons (pv 1) pa_nil)))) (pa_cons pe_int pa_nil))))))), ?_⟩
  refine ⟨.ref a, rfl, 63, rfl, a, _, rfl, hS, fun p np => ?_⟩
  rw [hms]
  have s1 : Same H (upd H p (.lst (ms.map V.int))) := same_upd np
  refine ⟨p, _, rfl, .inl (.inl (.inl upd_same)), fun l nl => ?_⟩
  have s2 := same_upd (o := .lst (ms.map V.int)) nl
  have hl2 : SqL K (upd (upd H p (.lst (ms.map V.int))) l (.lst (ms.map V.int))) l (ms.map V.int) := .inl (.inl upd_same)
  refine ⟨.ref l, rfl, l, _, rfl, hl2, fun c nc => ?_⟩
  have s3 := same_upd (o := .lst (ms.map V.int).reverse) nc
  refine ⟨.ref l, rfl, l, ms, rfl, s3.seq hl2, _, 2147483629, rfl, rfl, (show (0 : Int) < 2147483629 by decide), .ref l, rfl, l, _, rfl, .inl (s3.seq hl2), 48271, _, rfl, rfl, .inl ⟨by decide, by decide⟩, _, _, rfl, rfl, small_le (show 3 ≤ 1000 by decide), fun d nd' => ?_⟩
  refine q _ d c ((s1.trans s2).trans (s3.trans (same_upd nd'))) ?_ ?_
  · exact s1.free (s2.free (s3.free nd'))
  · refine ⟨ms.reverse, _, 0, upd_same, ?_, ?_, Int.le_refl 0, Int.le_refl 0⟩
    · have : c ≠ d := ne_of_none (show upd _ c _ c = _ from upd_same) nd'
      rw [upd_ne this, upd_same, List.map_reverse]
    · rw [List.length_reverse]
      exact hl
end
theorem Deck.new {H : Hp} {d c a : Addr} {N : Int} (D : Deck H d c N) (na : H a = none) : a ≠ d ∧ a ≠ c := by
  obtain ⟨cells, m, n, h1, h2, _⟩ := D
  exact ⟨(ne_of_none h1 na).symm, (ne_of_none h2 na).symm⟩
theorem Keep.free {d c a : Addr} {H H' : Hp} (s : Keep d c H H') (na : H' a = none) (h1 : a ≠ d) (h2 : a ≠ c) : H a = none := by
  cases q : H a with
  | none => rfl
  | some o =>
    rw [s a o h1 h2 q] at na
    cases na
end L16

namespace L16
open PySem PySem.Spec PyProof.Rows L2 GR
abbrev L26 : Str := "abcdefghijklmnopqrstuvwxyz"
def sgn (c : Nat) : Str := ⟨#[c]⟩
theorem l26_len : L26.length = 26 := by decide
theorem l26_at : ∀ k, k < 26 → L26.cps.toList[k]? = some (97 + k) := by decide
theorem l26_occ : ∀ k, k < 26 → Builtin.Str.occurrences L26 (sgn (97 + k)) 0 L26.length 1 = [k] := by decide +kernel
def Low (c : Nat) : Prop := 97 ≤ c ∧ c ≤ 122
/-- the words that are no names -/
def barred : List Str := ["key", "if", "at", "count", "sum", "most", "first", "let", "need", "put", "each", "tell"]
/-- a name -/
def Nm (z : Str) : Prop := 1 ≤ z.cps.toList.length ∧ z.cps.toList.length ≤ 8 ∧ (∀ c, c ∈ z.cps.toList → Low c) ∧ z ∉ barred
theorem nm_lit {z : Str} (h : (decide (1 ≤ z.cps.toList.length) && decide (z.cps.toList.length ≤ 8) && z.cps.toList.all (fun c => decide (97 ≤ c) && decide (c ≤ 122)) && decide (z ∉ barred)) = true) : Nm z := by
  simp only [Bool.and_eq_true, decide_eq_true_eq, List.all_eq_true] at h
  obtain ⟨⟨⟨h1, h2⟩, h3⟩, h4⟩ := h
  exact ⟨h1, h2, fun c hc => h3 c hc, h4⟩
theorem barred_q : ∀ z, z ∈ barred → z.cps.toList.head? ≠ some 113 := by decide
/-- the text of single signs, joined -/
theorem join_signs : ∀ cs : List Nat, (Txt.join Str.empty (cs.map sgn)).cps.toList = cs := by
  intro cs
  have hj : ∀ cs : List Nat, TL.joinL [] (cs.map fun c => [c]) = cs := by
    intro cs
    induction cs with
    | nil => rfl
    | cons a r ih =>
      cases r with
      | nil => rfl
      | cons b r =>
        show [a] ++ ([] ++ TL.joinL [] ((b :: r).map fun c => [c])) = a :: b :: r
        rw [ih]
        rfl
  have := TL.tl_join Str.empty (cs.map sgn)
  rw [List.map_map] at this
  rw [TL.join_eq]
  exact this.trans (hj cs)
section
variable {P : Program} {w : World} {K : PySem.W.Frag} {mg : Str → Option Value} {base : Heap}
abbrev s_law_pick : Stmt := topS 9
theorem sc_law_pick : FnScope ["_law_deck_here", "_law_some"] ["_law_deck_here", "_law_some"] (defScope s_law_pick) := ⟨rfl, rfl, rfl, by decide +kernel, rfl, by decide +kernel, by decide +kernel⟩
/-- a pick from a list, or from the letters -/
def sp_pick (K : PySem.W.Frag) : Sp := fun vs H Q _ =>
  (∃ (d c a : Addr) (N : Int) (xs : List V), vs = [.ref d, .ref a] ∧ Deck H d c N ∧ N < 2 ^ 60 ∧ SqL K H a xs ∧ xs ≠ [] ∧ xs.length ≤ 1000 ∧ a ≠ d ∧ a ≠ c ∧ ∀ H' v, Keep d c H H' → Deck H' d c (N + 1) → v ∈ xs → Q v H') ∨
  (∃ (d c : Addr) (N : Int), vs = [.ref d, .str L26] ∧ Deck H d c N ∧ N < 2 ^ 60 ∧ ∀ H' k, Keep d c H H' → Deck H' d c (N + 1) → k < 26 → Q (.str (sgn (97 + k))) H')
theorem ok_pick {f f_law_draw : Addr} {fd fd_law_draw : FuncData} {k : Nat} (F : Fun K "_law_pick" "_law_pick" s_law_pick f fd) (G_law_draw : FnOk P w K mg base CX0 k f_law_draw fd_law_draw ["_law_deck_here", "_law_most"] sp_draw)
    (g_law_draw : mg "_law_draw" = some (.ref f_law_draw)) (K_law_draw : PySem.W.keepIn K (.ref f_law_draw) = true) (b_law_draw : Binds K fd_law_draw ["_law_deck_here", "_law_most"] []) (mlen : mg "len" = none) :
    FnOk P w K mg base CX0 (k + 1) f fd ["_law_deck_here", "_law_some"] (sp_pick K) := by
  have nd := sc_law_pick.nd
  refine F.ok sc_law_pick (fun vs H Q E h => ?_) (fun cdv A outer s H vs Q E hr h => ?_)
  · rcases h with ⟨d, c, a, N, xs, rfl, _⟩ | ⟨d, c, N, rfl, _⟩ <;> rfl
  refine ⟨_, (pss_one (ps_ret (pe_ix ix_seq (pv 1) (pe_call G_law_draw hr (by rfl) g_law_draw K_law_draw b_law_draw .nil pass0 (pa_cons (pv 0) (pa_cons (pe_callB call_len (by rfl) mlen PySem.boot_len (pa_cons (pv 1) pa_nil)) pa_nil))) (fun _ _ => rfl)))), ?_⟩
  rcases h with ⟨d, c, a, N, xs, rfl, D, hN, hS, hne, hlen, had, hac, q⟩ | ⟨d, c, N, rfl, D, hN, q⟩
  · have hpos : 0 < xs.length := List.length_pos_iff.mpr hne
    refine ⟨.ref a, rfl, .ref d, rfl, .ref a, rfl, .ref a, xs.length, rfl, .inl ⟨xs, hS, rfl⟩, d, c, N, (xs.length : Int), rfl, D, hN, by omega, by omega, fun H' r kp D' r0 r1 => ?_⟩
    obtain ⟨j, rfl⟩ := Int.eq_ofNat_of_zero_le r0
    have hj : j < xs.length := by omega
    exact .inl ⟨a, xs, j, xs[j], rfl, rfl, kp.seq hS had hac, atI_nat (List.getElem?_eq_getElem hj), q H' _ kp D' (List.getElem_mem hj)⟩
  · refine ⟨.str L26, rfl, .ref d, rfl, .str L26, rfl, .str L26, 26, rfl, ⟨by rw [l26_len]; decide, l26_len.symm⟩, d, c, N, 26, rfl, D, hN, by decide, by decide, fun H' r kp D' r0 r1 => ?_⟩
    obtain ⟨j, rfl⟩ := Int.eq_ofNat_of_zero_le r0
    have hj : j < 26 := by omega
    exact .inr (.inr ⟨L26, j, 97 + j, rfl, rfl, by rw [l26_len]; decide, atI_nat (l26_at j hj), q H' j kp D' hj⟩)
end
end L16

namespace L16
open PySem PySem.Spec PyProof.Rows L2 GR
/-- lists of texts of single signs -/
def sg (cs : List Nat) : List V := (cs.map sgn).map V.str
theorem sg_length (cs : List Nat) : (sg cs).length = cs.length := by
  unfold sg
  rw [List.length_map, List.length_map]
theorem sg_snoc (cs : List Nat) (c : Nat) : sg cs ++ [V.str (sgn c)] = sg (cs ++ [c]) := by
  unfold sg
  simp
theorem sg_set (cs : List Nat) (i c : Nat) : (sg cs).set i (V.str (sgn c)) = sg (cs.set i c) := by
  unfold sg
  rw [List.map_set, List.map_set]
theorem sg_get {cs : List Nat} {i c : Nat} (h : cs[i]? = some c) : (sg cs)[i]? = some (V.str (sgn c)) := by
  unfold sg
  rw [List.getElem?_map, List.getElem?_map, h]
  rfl
theorem nm_signs {z : Str} {cs : List Nat} (hz : z.cps.toList = 113 :: cs) (h0 : cs.length ≤ 7) (hl : ∀ c, c ∈ cs → Low c) : Nm z := by
  refine ⟨by rw [hz]; simp, by rw [hz, List.length_cons]; omega, ?_, fun hb => ?_⟩
  · rw [hz]
    intro c hc
    rcases List.mem_cons.mp hc with rfl | hc
    · exact ⟨by decide, by decide⟩
    · exact hl c hc
  · have := barred_q z hb
    rw [hz] at this
    exact this rfl
theorem sgn_length (cs : List Nat) : ((cs.map sgn).map (·.length)).sum = cs.length := by
  induction cs with
  | nil => rfl
  | cons c r ih =>
    rw [List.map_cons, List.map_cons, List.sum_cons, ih, List.length_cons]
    show 1 + r.length = r.length + 1
    omega
section
variable {P : Program} {w : World} {K : PySem.W.Frag} {mg : Str → Option Value} {base : Heap}
abbrev s_law_names : Stmt := topS 10
abbrev N_names : List Str := ["_law_deck_here", "_law_many", "_law_letters", "_law_k", "_law_word", "_law_at", "_law_first", "_law_found"]
theorem sc_law_names : FnScope N_names ["_law_deck_here", "_law_many"] (defScope s_law_names) := ⟨rfl, rfl, rfl, by decide +kernel, rfl, by decide +kernel, by decide +kernel⟩
/-- a new list of names -/
def sp_names : Sp := fun vs H Q _ => ∃ (d c : Addr) (N : Int) (many : Nat), vs = [.ref d, .int (many : Int)] ∧ Deck H d c N ∧ N < 2 ^ 55 ∧ many ≤ 100 ∧
  ∀ H' p (zs : List Str), Keep d c H H' → Deck H' d c (N + 20) → H p = none → H' p = some (.lst (zs.map V.str)) → zs.length = many → (∀ z, z ∈ zs → Nm z) → Q (.ref p) H'
theorem ok_names {f f_law_draw f_law_pick : Addr} {fd fd_law_draw fd_law_pick : FuncData} {k : Nat} (F : Fun K "_law_names" "_law_names" s_law_names f fd) (G_law_draw : FnOk P w K mg base CX0 k f_law_draw fd_law_draw ["_law_deck_here", "_law_most"] sp_draw)
    (g_law_draw : mg "_law_draw" = some (.ref f_law_draw)) (K_law_draw : PySem.W.keepIn K (.ref f_law_draw) = true) (b_law_draw : Binds K fd_law_draw ["_law_deck_here", "_law_most"] [])
    (G_law_pick : FnOk P w K mg base CX0 k f_law_pick fd_law_pick ["_law_deck_here", "_law_some"] (sp_pick K))
    (g_law_pick : mg "_law_pick" = some (.ref f_law_pick)) (K_law_pick : PySem.W.keepIn K (.ref f_law_pick) = true) (b_law_pick : Binds K fd_law_pick ["_law_deck_here", "_law_some"] [])
    (mrange : mg "range" = none) (mlen : mg "len" = none) : FnOk P w K mg base CX0 (k + 1) f fd ["_law_deck_here", "_law_many"] sp_names := by
  have nd := sc_law_names.nd
  refine F.ok sc_law_names (fun vs H Q E h => ?_) (fun cdv A outer s H vs Q E hr h => ?_)
  · obtain ⟨d, c, N, many, rfl, _⟩ := h
    rfl
  obtain ⟨d, c, N, many, rfl, D, hN, hmany, q⟩ := h
  refine ⟨_, (pss_cons (ps_set (i := 2) nd rfl (.inr rfl) pe_str)
      (Evl.pss_cut (ps_set (i := 4) nd rfl (.inl rfl) (pe_op op_cat (pe_lst (pa_cons pe_str pa_nil)) (pe_lc (own := [("_law_k", 3)]) rfl nd (pi_range1 rfl mrange (pa_cons (pe_op op_add pe_int (pe_call G_law_draw hr (by rfl) g_law_draw K_law_draw b_law_draw .nil pass0 (pa_cons (pv 0) (pa_cons pe_int pa_nil)))) pa_nil)) (blkOk_by (N := N_names) (sc := defScope s_law_names) (by decide +kernel)) (fun _ _ _ _ _ => (pg_name (i := 3) nd rfl (Or.inl rfl))) (fun _ _ _ _ _ => pts_nil)
          (te := tCall (sp_pick K) [] E0 (tCons (tVar 0) (tCons (tVar 2) tNil)))
          (fun _ _ _ _ _ => (pe_call G_law_pick hr (by rfl) g_law_pick K_law_pick b_law_pick .nil pass0 (pa_cons (pv 0) (pa_cons (pv 2) pa_nil)))))))
      (pss_cons (ps_set (i := 5) nd rfl (.inl rfl) (pe_op op_add pe_int (pe_call G_law_draw hr (by rfl) g_law_draw K_law_draw b_law_draw .nil pass0 (pa_cons (pv 0) (pa_cons (pe_op op_sub (pe_callB call_len_seq (by rfl) mlen PySem.boot_len (pa_cons (pv 4) pa_nil)) pe_int) pa_nil)))))
      (pss_cons (ps_set (i := 6) nd rfl (.inl rfl) (pe_bm PySem.F.plainAttrs_str PySem.F.slot_str_index PySem.F.type_str_index mt_sindex (pv 2) (pa_cons (pe_ix ix_list (pv 4) (pv 5) (fun _ _ => rfl)) pa_nil)))
      (pss_cons (ps_set (i := 7) nd rfl (.inl rfl) (pe_lst pa_nil))
      (pss_cons (ps_for PassesOwn.never rfl (pi_range1 rfl mrange (pa_cons (pv 1) pa_nil)) (pg_name (i := 3) nd rfl (Or.inl rfl))
      (pss_cons (ps_asg (pe_ix ix_str (pv 2) (pe_op op_mod (pe_op op_add (pv 6) (pv 3)) pe_int) (fun _ _ => rfl)) (pg_sub (pv 4) (pv 5) set_list))
        (pss_one (ps_expr (pe_bm PySem.F.plainAttrs_list PySem.F.slot_list_append PySem.F.type_list_append mt_append (pv 7) (pa_cons (pe_join pe_str (pv 4)) pa_nil))))))
      (pss_one (ps_ret (pv 7))))))))), ?_⟩
  -- word = ['q'] + [..]
  refine ⟨fun σ' H' => ∃ wd cs, σ' = [some (.ref d), some (.int (many : Int)), some (.str L26), none, some (.ref wd), none, none, none] ∧ Keep d c H H' ∧ Deck H' d c (N + 8) ∧ H wd = none ∧ wd ≠ d ∧ wd ≠ c ∧ H' wd = some (.lst (sg (113 :: cs))) ∧ 1 ≤ cs.length ∧ cs.length ≤ 7 ∧ (∀ x, x ∈ cs → Low x), ?_, ?_⟩
  · refine ⟨Nat.le_of_lt (small1000 (show 1 ≤ 1000 by decide)), fun l nl => ?_⟩
    have sl := same_upd (o := .lst [.str "q"]) nl
    have D1 := D.same sl
    have hl := D.new nl
    have hl1 : upd H l (.lst [.str "q"]) l = some (.lst [.str "q"]) := upd_same
    refine ⟨.ref d, rfl, d, c, N, 7, rfl, D1, by omega, by decide, by decide, fun H1 r k1 D2 r0 r1 => ?_⟩
    obtain ⟨n, rfl⟩ := Int.eq_ofNat_of_zero_le r0
    refine ⟨1, (n : Int), rfl, rfl, 1 + (n : Int), rfl, by omega, by omega, fun B nB => ?_⟩
    have hB := D2.new nB
    have nlB : l ≠ B := ne_of_none (k1 _ _ hl.1 hl.2 hl1) nB
    have e1n : (1 + (n : Int)).toNat = n + 1 := by omega
    rw [e1n]
    refine lc_range (n := n + 1) (fun i H' => ∃ cs, cs.length = i ∧ (∀ x, x ∈ cs → Low x) ∧ H' B = some (.lst (sg cs)) ∧ (∀ b o, b ≠ d → b ≠ c → b ≠ B → H1 b = some o → H' b = some o) ∧ Deck H' d c (N + 1 + (i : Int))) ?_ ?_ ?_
    · refine ⟨[], rfl, fun x hx => (nomatch hx), upd_same, fun b o _ _ nb e => by rw [upd_ne nb]; exact e, ?_⟩
      exact (D2.same (same_upd nB)).mono (by omega)
    · rintro i H3 hi ⟨cs, hlen, hlow, hB3, k3, D3⟩
      refine ⟨rfl, yes_then ⟨.ref d, rfl, .str L26, rfl, .inr ⟨d, c, _, rfl, D3, by omega, fun H4 j k4 D4 hj => ?_⟩⟩⟩
      refine ⟨_, k4 _ _ hB.1 hB.2 hB3, ?_, cs ++ [97 + j], ?_, ?_, ?_, ?_, ?_⟩
      · rw [sg_length]
        exact small1000 (by omega)
      · rw [List.length_append, hlen]
        rfl
      · intro x hx
        rcases List.mem_append.mp hx with hx | hx
        · exact hlow x hx
        · rw [List.mem_singleton.mp hx]
          unfold Low
          omega
      · rw [upd_same, sg_snoc]
      · intro b o n1 n2 n3 e
        rw [upd_ne n3]
        exact k4 _ _ n1 n2 (k3 b o n1 n2 n3 e)
      · obtain ⟨cells, m, x, g1, g2, g3, g4, g5⟩ := D4
        refine ⟨cells, m, x, ?_, ?_, g3, g4, by omega⟩
        · rw [upd_ne hB.1.symm]
          exact g1
        · rw [upd_ne hB.2.symm]
          exact g2
    · rintro H3 ⟨cs, hlen, hlow, hB3, k3, D3⟩
      have hl3 := k3 _ _ hl.1 hl.2 nlB (k1 _ _ hl.1 hl.2 hl1)
      refine ⟨l, B, _, _, rfl, rfl, hl3, hB3, ?_, fun wd nwd => ?_⟩
      · rw [sg_length]
        exact small_le (show 1 + cs.length ≤ 1000 by omega)
      have hw := D3.new nwd
      have sw := same_upd (o := .lst ([.str "q"] ++ sg cs)) nwd
      refine ⟨wd, cs, rfl, ?_, (D3.same sw).mono (by omega), ?_, hw.1, hw.2, ?_, by omega, by omega, hlow⟩
      · intro b o n1 n2 e
        refine sw _ _ (k3 b o n1 n2 ?_ (k1 _ _ n1 n2 (sl _ _ e)))
        exact ne_of_none (k1 _ _ n1 n2 (sl _ _ e)) nB
      · cases e : H wd with
        | none => rfl
        | some o =>
          have nb := ne_of_none (k1 _ _ hw.1 hw.2 (sl _ _ e)) nB
          rw [k3 wd o hw.1 hw.2 nb (k1 _ _ hw.1 hw.2 (sl _ _ e))] at nwd
          cases nwd
      · exact upd_same
  rintro σ' H1 ⟨wd, cs, rfl, k1, D1, nwd, hwd, hwc, hw1, c1, c7, hlow⟩
  -- at, first
  refine ⟨.ref d, rfl, .ref wd, rfl, wd, _, rfl, .inl (.inl (.inl hw1)), _, 1, rfl, rfl, d, c, N + 8, ((sg (113 :: cs)).length : Int) - 1, rfl, D1, by omega, ?_, ?_, fun H2 r k2 D2 r0 r1 => ⟨_, _, rfl, rfl, ?_⟩⟩
  · rw [sg_length, List.length_cons]
    omega
  · rw [sg_length, List.length_cons]
    omega
  rw [sg_length, List.length_cons] at r1
  obtain ⟨j, rfl⟩ := Int.eq_ofNat_of_zero_le r0
  have hj : j < cs.length := by omega
  have hw2 := k2 _ _ hwd hwc hw1
  have hcj : (113 :: cs)[j + 1]? = some cs[j] := by
    rw [List.getElem?_cons_succ]
    exact List.getElem?_eq_getElem hj
  have hlj := hlow _ (List.getElem_mem hj)
  obtain ⟨m, hm, hm26⟩ : ∃ m, cs[j] = 97 + m ∧ m < 26 := ⟨cs[j] - 97, by unfold Low at hlj; omega, by unfold Low at hlj; omega⟩
  refine ⟨.str L26, rfl, rfl, .ref wd, rfl, .int (1 + (j : Int)), rfl, wd, _, 1 + (j : Int), .str (sgn (97 + m)), rfl, rfl, .inl (.inl hw2), at_of (j := j + 1) (by omega) (by rw [sg_get hcj, hm]), L26, sgn (97 + m), m, [], rfl, rfl, l26_occ m hm26, ?_⟩
  refine ⟨Nat.zero_le _, fun fo nfo => ?_⟩
  have sf := same_upd (o := .lst []) nfo
  have hfo := D2.new nfo
  have nwf : wd ≠ fo := ne_of_none hw2 nfo
  refine ⟨.int (many : Int), rfl, (many : Int), rfl, by omega, by omega, ?_⟩
  have emany : ((many : Int)).toNat = many := by omega
  rw [emany]
  refine for_range (n := many) (fun i σ H' => ∃ (y3 : Option V) (cs' : List Nat) (zs : List Str), σ = [some (.ref d), some (.int (many : Int)), some (.str L26), y3, some (.ref wd), some (.int (1 + (j : Int))), some (.int (m : Int)), some (.ref fo)] ∧ H' wd = some (.lst (sg (113 :: cs'))) ∧ cs'.length = cs.length ∧ (∀ x, x ∈ cs' → Low x) ∧
      H' fo = some (.lst (zs.map V.str)) ∧ zs.length = i ∧ (∀ z, z ∈ zs → Nm z) ∧ (∀ b o, b ≠ wd → b ≠ fo → H2 b = some o → H' b = some o)) ?_ ?_ ?_
  · refine ⟨none, cs, [], rfl, ?_, rfl, hlow, upd_same, rfl, fun z hz => (nomatch hz), fun b o n1 n2 e => by rw [upd_ne n2]; exact e⟩
    rw [upd_ne nwf]
    exact hw2
  · rintro i σ H3 hi ⟨y3, cs', zs, rfl, hw3, hl3, hlow3, hf3, hz3, hnm3, k3⟩
    have hmod : ∃ t : Nat, ((m : Int) + (0 + (i : Int))) % 26 = (t : Int) ∧ t < 26 := ⟨(m + i) % 26, by omega, Nat.mod_lt _ (by decide)⟩
    obtain ⟨t, ht, ht26⟩ := hmod
    refine ⟨.str L26, rfl, .int (m : Int), rfl, .int (0 + (i : Int)), rfl, _, _, rfl, rfl, _, 26, rfl, rfl, (show (0 : Int) < 26 by decide), L26, (t : Int), 97 + t, rfl, congrArg V.int ht, by rw [l26_len]; decide, atI_nat (l26_at t ht26), ?_⟩
    have hix : ixN (sg (113 :: cs')).length (1 + (j : Int)) = some (j + 1) := by
      unfold ixN
      rw [if_pos (by omega), if_pos (by rw [sg_length, List.length_cons]; omega)]
      exact congrArg some (by omega)
    refine ⟨.ref wd, rfl, .int (1 + (j : Int)), rfl, wd, _, 1 + (j : Int), j + 1, rfl, rfl, hw3, hix, ?_⟩
    have hset : (sg (113 :: cs')).set (j + 1) (.str (sgn (97 + t))) = sg (113 :: cs'.set j (97 + t)) := sg_set _ _ _
    have hw4 : upd H3 wd (.lst ((sg (113 :: cs')).set (j + 1) (.str (sgn (97 + t))))) wd = some (.lst (sg (113 :: cs'.set j (97 + t)))) := by rw [upd_same, hset]
    have hf4 : upd H3 wd (.lst ((sg (113 :: cs')).set (j + 1) (.str (sgn (97 + t))))) fo = some (.lst (zs.map V.str)) := by
      rw [upd_ne nwf.symm]
      exact hf3
    refine ⟨.ref fo, rfl, .inl ⟨rfl, _, .inl (.inl hf4)⟩, ⟨_, rfl⟩, .ref wd, rfl, Str.empty, wd, (113 :: cs'.set j (97 + t)).map sgn, rfl, rfl, .inl (.inl (.inl hw4)), ?_, fo, _, _, rfl, rfl, hf4, ?_, ?_⟩
    · rw [sgn_length, List.length_map, List.length_cons, List.length_set]
      show _ + _ * 0 ≤ _
      omega
    · rw [List.length_map]
      exact small1000 (by omega)
    · refine ⟨_, cs'.set j (97 + t), zs ++ [Txt.join Str.empty ((113 :: cs'.set j (97 + t)).map sgn)], rfl, ?_, by rw [List.length_set]; exact hl3, ?_, ?_, by rw [List.length_append, hz3]; rfl, ?_, ?_⟩
      · rw [upd_ne nwf]
        exact hw4
      · intro x hx
        rcases List.mem_or_eq_of_mem_set hx with hx | rfl
        · exact hlow3 x hx
        · unfold Low
          omega
      · rw [upd_same, List.map_append]
        rfl
      · intro z hz
        rcases List.mem_append.mp hz with hz | hz
        · exact hnm3 z hz
        · rw [List.mem_singleton.mp hz]
          refine nm_signs (cs := cs'.set j (97 + t)) (join_signs _) (by rw [List.length_set]; omega) ?_
          intro x hx
          rcases List.mem_or_eq_of_mem_set hx with hx | rfl
          · exact hlow3 x hx
          · unfold Low
            omega
      · intro b o n1 n2 e
        rw [upd_ne n2, upd_ne n1]
        exact k3 b o n1 n2 e
  · rintro σ H3 ⟨y3, cs', zs, rfl, hw3, hl3, hlow3, hf3, hz3, hnm3, k3⟩
    have nHfo : H fo = none := (k1.trans k2).free nfo hfo.1 hfo.2
    refine ⟨.ref fo, rfl, q H3 fo zs ?_ ?_ nHfo hf3 hz3 hnm3⟩
    · intro b o n1 n2 e
      exact k3 b o (ne_of_none e nwd) (ne_of_none e nHfo) (k2 _ _ n1 n2 (k1 _ _ n1 n2 e))
    · obtain ⟨cells, mm, x, e1, e2, e3, e4, e5⟩ := D2
      exact ⟨cells, mm, x, k3 _ _ hwd.symm hfo.1.symm e1, k3 _ _ hwc.symm hfo.2.symm e2, e3, e4, by omega⟩
end
end L16

namespace L16
open PySem PySem.Spec PyProof.Rows L2 GR
theorem Deck.upd {H : Hp} {d c p : Addr} {N : Int} {o : HO} (D : Deck H d c N) (h1 : p ≠ d) (h2 : p ≠ c) : Deck (L2.upd H p o) d c N := by
  obtain ⟨cells, m, n, e1, e2, e3⟩ := D
  exact ⟨cells, m, n, by rw [upd_ne h1.symm]; exact e1, by rw [upd_ne h2.symm]; exact e2, e3⟩
def wD (tl cl nl : Addr) : List (Key × V) := [(.inr "tables", .ref tl), (.inr "columns", .ref cl), (.inr "names", .ref nl)]
theorem wD_t (tl cl nl : Addr) : valV (wD tl cl nl) (.inr "tables") = some (.ref tl) := valV_pos rfl
theorem wD_c (tl cl nl : Addr) : valV (wD tl cl nl) (.inr "columns") = some (.ref cl) := (valV_neg (show ¬ ((.inr "tables" : Key) = .inr "columns") by decide)).trans (valV_pos rfl)
theorem wD_n (tl cl nl : Addr) : valV (wD tl cl nl) (.inr "names") = some (.ref nl) := (valV_neg (show ¬ ((.inr "tables" : Key) = .inr "names") by decide)).trans ((valV_neg (show ¬ ((.inr "columns" : Key) = .inr "names") by decide)).trans (valV_pos rfl))
/-- the world at u: lists of tables, columns, variables -/
structure Wd (H : Hp) (d c u tl cl nl : Addr) (ts cs ns : List Str) : Prop where
  dct : H u = some (.dK (wD tl cl nl))
  ht : H tl = some (.lst (ts.map V.str))
  hc : H cl = some (.lst (cs.map V.str))
  hn : H nl = some (.lst (ns.map V.str))
  t0 : tl ≠ d ∧ tl ≠ c
  c0 : cl ≠ d ∧ cl ≠ c
  n0 : nl ≠ d ∧ nl ≠ c
  u0 : u ≠ d ∧ u ≠ c
  lt : ts.length = 2
  lc : cs.length = 3
  ln : ns.length = 3
  at' : ∀ z, z ∈ ts → Nm z
  ac : ∀ z, z ∈ cs → Nm z
  an : ∀ z, z ∈ ns → Nm z
theorem Wd.keep {H H' : Hp} {d c u tl cl nl : Addr} {ts cs ns : List Str} (W : Wd H d c u tl cl nl ts cs ns) (k : Keep d c H H') : Wd H' d c u tl cl nl ts cs ns :=
  ⟨k _ _ W.u0.1 W.u0.2 W.dct, k _ _ W.t0.1 W.t0.2 W.ht, k _ _ W.c0.1 W.c0.2 W.hc, k _ _ W.n0.1 W.n0.2 W.hn, W.t0, W.c0, W.n0, W.u0, W.lt, W.lc, W.ln, W.at', W.ac, W.an⟩
theorem in_nm : Nm "in" := nm_lit (by decide)
theorem cut_map (zs : List Str) (lo hi : Option Int) (a b : Nat) (h1 : HT.sIx zs.length 0 lo = a) (h2 : HT.sIx zs.length zs.length hi = b) : cutV (zs.map V.str) lo hi = ((zs.drop a).take (b - a)).map V.str := by
  unfold cutV
  rw [List.length_map, h1, h2, List.map_take, List.map_drop]
section
variable {P : Program} {w : World} {K : PySem.W.Frag} {mg : Str → Option Value} {base : Heap}
abbrev s_law_world : Stmt := topS 11
theorem sc_law_world : FnScope ["_law_deck_here", "_law_names_here"] ["_law_deck_here"] (defScope s_law_world) := ⟨rfl, rfl, rfl, by decide +kernel, rfl, by decide +kernel, by decide +kernel⟩
def sp_world : Sp := fun vs H Q _ => ∃ (d c : Addr) (N : Int), vs = [.ref d] ∧ Deck H d c N ∧ N < 2 ^ 54 ∧
  ∀ H' u tl cl nl ts cs ns, Keep d c H H' → Deck H' d c (N + 30) → H u = none → Wd H' d c u tl cl nl ts cs ns → Q (.ref u) H'
theorem ok_world {f f_law_draw f_law_names : Addr} {fd fd_law_draw fd_law_names : FuncData} {k : Nat} (F : Fun K "_law_world" "_law_world" s_law_world f fd) (G_law_draw : FnOk P w K mg base CX0 k f_law_draw fd_law_draw ["_law_deck_here", "_law_most"] sp_draw)
    (g_law_draw : mg "_law_draw" = some (.ref f_law_draw)) (K_law_draw : PySem.W.keepIn K (.ref f_law_draw) = true) (b_law_draw : Binds K fd_law_draw ["_law_deck_here", "_law_most"] [])
    (G_law_names : FnOk P w K mg base CX0 k f_law_names fd_law_names ["_law_deck_here", "_law_many"] sp_names)
    (g_law_names : mg "_law_names" = some (.ref f_law_names)) (K_law_names : PySem.W.keepIn K (.ref f_law_names) = true) (b_law_names : Binds K fd_law_names ["_law_deck_here", "_law_many"] []) : FnOk P w K mg base CX0 (k + 1) f fd ["_law_deck_here"] sp_world := by
  have nd := sc_law_world.nd
  refine F.ok sc_law_world (fun vs H Q E h => ?_) (fun cdv A outer s H vs Q E hr h => ?_)
  · obtain ⟨d, c, N, rfl, _⟩ := h
    rfl
  obtain ⟨d, c, N, rfl, D, hN, q⟩ := h
  refine ⟨_, (pss_cons (ps_set (i := 1) nd rfl (.inl rfl) (pe_call G_law_names hr (by rfl) g_law_names K_law_names b_law_names .nil pass0 (pa_cons (pv 0) (pa_cons pe_int pa_nil))))
      (Evl.pss_cut (ps_if (pt_cmpR op_eq (pe_call G_law_draw hr (by rfl) g_law_draw K_law_draw b_law_draw .nil pass0 (pa_cons (pv 0) (pa_cons pe_int pa_nil))) pe_int (nomark _))
      (pss_one (ps_asg (pe_ix ix_list (pv 1) pe_int (fun _ _ => rfl)) (pg_sub (pv 1) pe_int set_list)))
      pss_nil)
      (pss_one (ps_ret (pe_disp (pps_cons pe_str (pe_slice sl_list (pv 1) po_none (po_some pe_int)) (pps_cons pe_str (pe_op op_cat (pe_slice sl_list (pv 1) (po_some pe_int) (po_some pe_int)) (pe_lst (pa_cons pe_str pa_nil))) (pps_cons pe_str (pe_slice sl_list (pv 1) (po_some pe_int) po_none) pps_nil))) (by decide) rfl (by simp) (by decide)))))), ?_⟩
  refine ⟨.ref d, rfl, d, c, N, 7, rfl, D, by omega, by decide, fun H1 p zs k1 D1 np hp hlen hnm => ?_⟩
  have hpn : p ≠ d ∧ p ≠ c := by
    obtain ⟨cells, m, n, h1, h2, _⟩ := D
    exact ⟨(ne_of_none h1 np).symm, (ne_of_none h2 np).symm⟩
  refine ⟨fun σ' H' => ∃ zs' : List Str, σ' = [some (.ref d), some (.ref p)] ∧ Keep d c H H' ∧ Deck H' d c (N + 25) ∧ H' p = some (.lst (zs'.map V.str)) ∧ zs'.length = 7 ∧ ∀ z, z ∈ zs' → Nm z, ?_, ?_⟩
  · refine ⟨.ref d, rfl, d, c, _, 4, rfl, D1, by omega, by decide, by decide, fun H2 r k2 D2 r0 r1 => ⟨rfl, _, rfl, ite2 (fun e => ?_) (fun e => ?_)⟩⟩
    · have hp2 := k2 _ _ hpn.1 hpn.2 hp
      have h2 : (zs.map V.str)[2]? = some (.str (zs[2]'(by omega))) := by
        rw [List.getElem?_map, List.getElem?_eq_getElem (by omega)]
        rfl
      refine ⟨.ref p, rfl, p, _, 2, _, rfl, rfl, .inl (.inl hp2), atI_nat (j := 2) h2, .ref p, rfl, p, _, 0, 0, rfl, rfl, hp2, ?_, ?_⟩
      · unfold ixN
        rw [if_pos (by decide), List.length_map, hlen]
        rfl
      rw [← List.map_set]
      refine ⟨_, rfl, fun b o n1 n2 e => ?_, ?_, upd_same, by rw [List.length_set, hlen], fun z hz => ?_⟩
      · rw [upd_ne (ne_of_none e np)]
        exact k2 _ _ n1 n2 (k1 _ _ n1 n2 e)
      · exact (D2.upd hpn.1 hpn.2).mono (by omega)
      · rcases List.mem_or_eq_of_mem_set hz with h | rfl
        · exact hnm z h
        · exact hnm _ (List.getElem_mem _)
    · exact ⟨zs, rfl, k1.trans k2, D2.mono (by omega), k2 _ _ hpn.1 hpn.2 hp, hlen, hnm⟩
  rintro σ' H2 ⟨zs, rfl, k2, D2, hp2, hlen, hnm⟩
  intro u nu
  have su := same_upd (o := .dK []) nu
  have hu := D2.new nu
  refine ⟨.ref p, rfl, 2, rfl, p, _, rfl, .inl (.inl (su _ _ hp2)), fun tl ntl => ?_⟩
  have e1 := cut_map zs none (some 2) 0 2 rfl (by rw [show (some (2 : Int)) = some ((2 : Nat) : Int) from rfl, HT.sIx_nat, hlen]; rfl)
  have e2 := cut_map zs (some 2) (some 4) 2 4 (by rw [show (some (2 : Int)) = some ((2 : Nat) : Int) from rfl, HT.sIx_nat, hlen]; rfl) (by rw [show (some (4 : Int)) = some ((4 : Nat) : Int) from rfl, HT.sIx_nat, hlen]; rfl)
  have e3 := cut_map zs (some 4) none 4 7 (by rw [show (some (4 : Int)) = some ((4 : Nat) : Int) from rfl, HT.sIx_nat, hlen]; rfl) (by rw [HT.sIx_none, hlen])
  rw [e1]
  have s1 := same_upd (o := .lst (((zs.drop 0).take (2 - 0)).map V.str)) ntl
  refine ⟨.ref p, rfl, 2, rfl, 4, rfl, p, _, rfl, .inl (.inl (s1 _ _ (su _ _ hp2))), fun ml nml => ?_⟩
  rw [e2]
  have s2 := same_upd (o := .lst (((zs.drop 2).take (4 - 2)).map V.str)) nml
  refine ⟨small_le (show 1 ≤ 1000 by decide), fun il nil => ?_⟩
  have s3 := same_upd (o := .lst [.str "in"]) nil
  have l2 : ((zs.drop 2).take (4 - 2)).length = 2 := by rw [List.length_take, List.length_drop, hlen]; rfl
  refine ⟨ml, il, _, _, rfl, rfl, s3 _ _ upd_same, upd_same, by rw [List.length_map, l2]; exact small_le (show 3 ≤ 1000 by decide), fun cl ncl => ?_⟩
  have ec : (((zs.drop 2).take (4 - 2)).map V.str) ++ [V.str "in"] = (((zs.drop 2).take (4 - 2)) ++ [("in" : Str)]).map V.str := by rw [List.map_append]; rfl
  rw [ec]
  have s4 := same_upd (o := .lst ((((zs.drop 2).take (4 - 2)) ++ [("in" : Str)]).map V.str)) ncl
  refine ⟨.ref p, rfl, 4, rfl, p, _, rfl, .inl (.inl (s4 _ _ (s3 _ _ (s2 _ _ (s1 _ _ (su _ _ hp2)))))), fun nl nnl => ?_⟩
  rw [e3]
  have s5 := same_upd (o := .lst (((zs.drop 4).take (7 - 4)).map V.str)) nnl
  have s45 := s4.trans s5
  have s25 := s2.trans (s3.trans s45)
  have s15 := s1.trans s25
  have u5 := s15 _ _ (show upd H2 u (.dK []) u = _ from upd_same)
  have t5 := s25 _ _ (show upd (upd H2 u (.dK [])) tl (.lst (((zs.drop 0).take (2 - 0)).map V.str)) tl = _ from upd_same)
  have c5 := s5 _ _ (show upd (upd (upd (upd (upd H2 u (.dK [])) tl (.lst (((zs.drop 0).take (2 - 0)).map V.str))) ml (.lst (((zs.drop 2).take (4 - 2)).map V.str))) il (.lst [.str "in"])) cl (.lst ((((zs.drop 2).take (4 - 2)) ++ [("in" : Str)]).map V.str)) cl = _ from upd_same)
  have n5 : upd (upd (upd (upd (upd (upd H2 u (.dK [])) tl (.lst (((zs.drop 0).take (2 - 0)).map V.str))) ml (.lst (((zs.drop 2).take (4 - 2)).map V.str))) il (.lst [.str "in"])) cl (.lst ((((zs.drop 2).take (4 - 2)) ++ [("in" : Str)]).map V.str))) nl (.lst (((zs.drop 4).take (7 - 4)).map V.str)) nl = _ := upd_same
  have s05 := su.trans s15
  have dtl := D2.new (su.free ntl)
  have dcl := (D2.same (su.trans (s1.trans (s2.trans s3)))).new ncl
  have dnl := (D2.same (su.trans (s1.trans (s2.trans (s3.trans s4))))).new nnl
  clear nnl ncl nil nml ntl s1 s2 s3 s4 s5 s45 s25
  revert u5 t5 c5 n5 s05
  clear s15
  generalize upd (upd (upd (upd (upd (upd H2 u (.dK [])) tl (.lst (((zs.drop 0).take (2 - 0)).map V.str))) ml (.lst (((zs.drop 2).take (4 - 2)).map V.str))) il (.lst [.str "in"])) cl (.lst ((((zs.drop 2).take (4 - 2)) ++ [("in" : Str)]).map V.str))) nl (.lst (((zs.drop 4).take (7 - 4)).map V.str)) = H6
  intro u5 t5 c5 n5 s05
  have tu : tl ≠ u := ne_of t5 u5 (fun z => by cases z)
  have cu : cl ≠ u := ne_of c5 u5 (fun z => by cases z)
  have nu' : nl ≠ u := ne_of n5 u5 (fun z => by cases z)
  have nHu : H u = none := k2.free nu hu.1 hu.2
  refine ⟨u5, wD tl cl nl, rfl, (show 3 ≤ 15 by decide), q _ u tl cl nl ((zs.drop 0).take (2 - 0)) ((zs.drop 2).take (4 - 2) ++ [("in" : Str)]) ((zs.drop 4).take (7 - 4)) (fun b o n1 n2 e => ?_) (((D2.same s05).upd hu.1 hu.2).mono (by omega)) nHu ?_⟩
  · rw [upd_ne (ne_of_none e nHu)]
    exact s05 _ _ (k2 _ _ n1 n2 e)
  · refine ⟨upd_same, by rw [upd_ne tu]; exact t5, by rw [upd_ne cu]; exact c5, by rw [upd_ne nu']; exact n5, dtl, dcl, dnl, hu, by rw [List.length_take, List.length_drop, hlen]; rfl, by rw [List.length_append, l2]; rfl, by rw [List.length_take, List.length_drop, hlen]; rfl, fun z hz => hnm z (List.mem_of_mem_drop (List.mem_of_mem_take hz)), fun z hz => ?_, fun z hz => hnm z (List.mem_of_mem_drop (List.mem_of_mem_take hz))⟩
    rcases List.mem_append.mp hz with h | h
    · exact hnm z (List.mem_of_mem_drop (List.mem_of_mem_take h))
    · rw [List.mem_singleton.mp h]
      exact in_nm
end
end L16

namespace GR
open PySem PySem.Spec PyProof.Rows L2
theorem FnG.mono {P : Program} {w : World} {K : PySem.W.Frag} {mg : Str → Option Value} {base : Heap} {CX : CXT} {j k : Nat} {f : Addr} {fd : FuncData} {ps : List Str} {sp : Sp} (F : FnG P w K mg base CX j f fd ps sp) (h : j ≤ k) : FnG P w K mg base CX k f fd ps sp :=
  ⟨F.size, fun A outer s H args us vs Q E g hr => F.go A outer s H args us vs Q E g (hr.mono h)⟩
/-! ### the signs of what repr shows -/
abbrev SO (x : Str) : Prop := ∀ c, c ∈ x.cps.toList → c < 0x110000
theorem so_iff {x : Str} : PyData.strOk x = true ↔ SO x := by
  unfold PyData.strOk
  rw [Array.all_eq_true']
  constructor
  · intro h c hc
    have := h c (by simpa using hc)
    simpa using this
  · intro h c hc
    have := h c (by simpa using hc)
    simpa using this
theorem so_append {x y : Str} (hx : SO x) (hy : SO y) : SO (x ++ y) := fun c hc => by
  rcases mem_cps_append.mp hc with h | h
  · exact hx c h
  · exact hy c h
theorem so_join {sep : Str} (hs : SO sep) {ts : List Str} (h : ∀ t, t ∈ ts → SO t) : SO (Str.join sep ts) := fun c hc => by
  rcases (mem_join sep c ts).mp hc with ⟨t, ht, hc⟩ | ⟨_, hc⟩
  · exact h t ht c hc
  · exact hs c hc
theorem hex_so (w c : Nat) : ∀ k, k ∈ List.replicate (w - ((Nat.toDigits 16 c).map Char.toNat).length) 48 ++ (Nat.toDigits 16 c).map Char.toNat → k < 0x110000 := by
  intro k hk
  rcases List.mem_append.mp hk with h | h
  · have := List.eq_of_mem_replicate h
    omega
  · obtain ⟨ch, _, rfl⟩ := List.mem_map.mp h
    have := ch.valid
    have e : ch.toNat = ch.val.toNat := rfl
    rcases this with h | ⟨_, h⟩
    · have h' : ch.val.toNat < 0xd800 := h
      omega
    · have h' : ch.val.toNat < 0x110000 := h
      omega
theorem reprChar_so {q c : Nat} (hc : c < 0x110000) : ∀ k, k ∈ Builtin.Str.reprChar q c → k < 0x110000 := by
  intro k hk
  have h8 := hex_so 8 c k
  have h4 := hex_so 4 c k
  have h2 := hex_so 2 c k
  unfold Builtin.Str.reprChar at hk
  dsimp only at hk
  repeat' split at hk
  all_goals first
    | (rcases List.mem_append.mp hk with hk | hk
       · (simp only [List.mem_cons, List.not_mem_nil, or_false] at hk; omega)
       · first | exact h2 hk | exact h4 hk | exact h8 hk)
    | (simp only [List.mem_cons, List.not_mem_nil, or_false] at hk; omega)
theorem fold_so {q : Nat} : ∀ (l : List Nat) (acc : Array Nat), (∀ c, c ∈ l → c < 0x110000) → (∀ c, c ∈ acc.toList → c < 0x110000) → ∀ c, c ∈ (l.foldl (fun out c => out ++ (Builtin.Str.reprChar q c).toArray) acc).toList → c < 0x110000
  | [], acc, _, h => h
  | d :: r, acc, hl, h => by
    rw [List.foldl_cons]
    refine fold_so r _ (fun c hc => hl c (List.mem_cons_of_mem _ hc)) fun c hc => ?_
    rw [Array.toList_append, List.mem_append] at hc
    rcases hc with hc | hc
    · exact h c hc
    · exact reprChar_so (hl d List.mem_cons_self) c (by simpa using hc)
theorem repr_so {x : Str} (h : SO x) : SO (reprText x) := fun c hc => by
  have hq : reprQuote x < 0x110000 := by
    unfold reprQuote
    split <;> decide
  unfold reprText at hc
  have hc' : c ∈ ((x.cps.foldl (fun out c => out ++ (Builtin.Str.reprChar (reprQuote x) c).toArray) #[reprQuote x]).push (reprQuote x)).toList := hc
  rw [Array.toList_push, List.mem_append] at hc'
  rcases hc' with hc' | hc'
  · rw [← Array.foldl_toList] at hc'
    refine fold_so x.cps.toList _ h (fun c hc => ?_) c hc'
    have : c = reprQuote x := by simpa using hc
    rw [this]
    exact hq
  · have : c = reprQuote x := by simpa using hc'
    rw [this]
    exact hq
mutual
theorem shown_so : ∀ d : PyData, d.canLay0 = true → SO d.shown
  | .none, _ => by rw [PyData.shown_none]; decide
  | .bool b, _ => by
    rw [PyData.shown_bool]
    cases b <;> decide
  | .int i, _ => fun c hc => by
    by_cases h : 57 < c
    · exact absurd hc (shown_int_free' (k := c) ⟨by omega, .inr h⟩ i)
    · omega
  | .str x, h => by
    rw [PyData.shown_str]
    exact repr_so (so_iff.mp (by simpa [PyData.canLay0] using h))
  | .list xs, h => by
    rw [PyData.shown_list]
    exact so_append (so_append (by decide) (so_join (by decide) (shownAll_so xs (by simpa [PyData.canLay0] using h)))) (by decide)
  | .tuple xs, h => by
    rw [PyData.shown_tuple]
    refine so_append (so_append (by decide) (so_join (by decide) (shownAll_so xs (by simpa [PyData.canLay0] using h)))) ?_
    split <;> decide
  | .dict _, h => by simp [PyData.canLay0] at h
theorem shownAll_so : ∀ xs : List PyData, PyData.canLayAll0 xs = true → ∀ t, t ∈ PyData.shownAll xs → SO t
  | [], _, t, ht => by rw [PyData.shownAll_nil] at ht; exact absurd ht (by simp)
  | x :: xs, h, t, ht => by
    have h' : x.canLay0 = true ∧ PyData.canLayAll0 xs = true := by simpa [PyData.canLayAll0] using h
    rw [PyData.shownAll_cons, List.mem_cons] at ht
    rcases ht with rfl | ht
    · exact shown_so x h'.1
    · exact shownAll_so xs h'.2 t ht
end
theorem shown_ok {d : PyData} (h : d.canLay0 = true) : PyData.strOk d.shown = true := so_iff.mpr (shown_so d h)
section
variable {X : Cx} {pins : List (Addr × Obj)} {σ : L2.St} {H : Hp} {s : Shared}
/-- repr of a truth -/
def rReprB : List V → Hp → VK → Prop := fun xs H Q => ∃ b, xs = [.bl b] ∧ Q (.str (PyData.bool b).shown) H
theorem call_reprB : CallR X (.builtin "repr") rReprB := by
  intro pins s σ H xs us Q I r h
  obtain ⟨b, rfl, q⟩ := h
  obtain ⟨u, rfl, rv⟩ := vals1 r
  obtain rfl : u = Value.bool b := rv
  rw [PyData.shown_bool] at q
  exact P.repr_of_bool ⟨.str _, H, I.kept fun _ _ e => e, ⟨_, rfl⟩, q⟩
end
end GR

namespace L16
open PySem PySem.Spec PyProof.Rows L2 GR
/-! ### data of tuples, texts and ints -/
mutual
/-- no lists in it -/
def flatD : PyData → Bool
  | .tuple ds => flatDs ds
  | .int _ => true
  | .str _ => true
  | .bool _ => true
  | .none => true
  | _ => false
def flatDs : List PyData → Bool
  | [] => true
  | d :: ds => flatD d && flatDs ds
end
theorem flatDs_of : ∀ {ds : List PyData}, (∀ d, d ∈ ds → flatD d = true) → flatDs ds = true
  | [], _ => by rw [flatDs]
  | d :: ds, h => by
    rw [flatDs, h d List.mem_cons_self, flatDs_of fun x hx => h x (List.mem_cons_of_mem _ hx)]
    rfl
/-- the tuples stay -/
def KeepT (H H' : Hp) : Prop := (∀ b xs, H b = some (.tup xs) → H' b = some (.tup xs)) ∧ ∀ b o xs, H b = some (.frz o (.tup xs)) → H' b = some (.frz o (.tup xs))
theorem KeepT.of {H H' : Hp} (s : Same H H') : KeepT H H' := ⟨fun b xs e => s b _ e, fun b o xs e => s b _ e⟩
theorem KeepT.refl {H : Hp} : KeepT H H := ⟨fun _ _ e => e, fun _ _ _ e => e⟩
theorem KeepT.trans {H H1 H2 : Hp} (a : KeepT H H1) (b : KeepT H1 H2) : KeepT H H2 := ⟨fun x xs e => b.1 x xs (a.1 x xs e), fun x o xs e => b.2 x o xs (a.2 x o xs e)⟩
theorem KeepT.seqt {K : PySem.W.Frag} {H H' : Hp} (s : KeepT H H') {a : Addr} {xs : List V} (h : SqT K H a xs) : SqT K H' a xs := by
  rcases h with (h | ⟨o, h⟩) | h
  · exact .inl (.inl (s.1 _ _ h))
  · exact .inl (.inr ⟨o, s.2 _ _ _ h⟩)
  · exact .inr h
theorem KeepT.upd {H : Hp} {a : Addr} {o : HO} (ha : ∀ xs, H a ≠ some (.tup xs)) (hb : ∀ u xs, H a ≠ some (.frz u (.tup xs))) : KeepT H (L2.upd H a o) := by
  refine ⟨fun b xs e => ?_, fun b u xs e => ?_⟩
  · have : b ≠ a := by
      rintro rfl
      exact ha xs e
    rw [upd_ne this]
    exact e
  · have : b ≠ a := by
      rintro rfl
      exact hb u xs e
    rw [upd_ne this]
    exact e
theorem KeepT.lst {H : Hp} {a : Addr} {ys : List V} {o : HO} (h : H a = some (.lst ys)) : KeepT H (L2.upd H a o) := KeepT.upd (fun xs e => by rw [h] at e; cases e) (fun u xs e => by rw [h] at e; cases e)
theorem KeepT.dk {H : Hp} {a : Addr} {ys : List (Key × V)} {o : HO} (h : H a = some (.dK ys)) : KeepT H (L2.upd H a o) := KeepT.upd (fun xs e => by rw [h] at e; cases e) (fun u xs e => by rw [h] at e; cases e)
theorem KeepT.non {H : Hp} {a : Addr} {o : HO} (h : H a = none) : KeepT H (L2.upd H a o) := KeepT.of (same_upd h)
theorem Keep.t {H H' : Hp} {d c : Addr} {N : Int} (k : Keep d c H H') (D : Deck H d c N) : KeepT H H' := by
  obtain ⟨cells, m, n, h1, h2, _⟩ := D
  exact ⟨fun b xs e => k _ _ (ne_of e h1 (fun z => by cases z)) (ne_of e h2 (fun z => by cases z)) e,
    fun b o xs e => k _ _ (ne_of e h1 (fun z => by cases z)) (ne_of e h2 (fun z => by cases z)) e⟩
mutual
theorem dp_keep {K : PySem.W.Frag} {H H' : Hp} (s : KeepT H H') : ∀ (d : PyData) (v : V), flatD d = true → Dp K H v d → Dp K H' v d
  | .none, _, _, h => by
    cases h
    exact .non
  | .bool b, _, _, h => by
    cases h
    exact .bl b
  | .int i, _, _, h => by
    cases h
    exact .int i
  | .str z, _, _, h => by
    cases h
    exact .str z
  | .tuple ds, _, hf, h => by
    cases h with
    | tup h1 h2 => exact .tup (s.seqt h1) (dp_keepAll s ds _ (by rw [flatD] at hf; exact hf) h2)
  | .list ds, _, hf, h => by simp only [flatD, Bool.false_eq_true] at hf
  | .dict ds, _, hf, h => by cases h
theorem dp_keepAll {K : PySem.W.Frag} {H H' : Hp} (s : KeepT H H') : ∀ (ds : List PyData) (vs : List V), flatDs ds = true → DpAll K H vs ds → DpAll K H' vs ds
  | [], _, _, h => by
    cases h
    exact .nil
  | d :: ds, _, hf, h => by
    rw [flatDs, Bool.and_eq_true] at hf
    cases h with
    | cons h1 h2 => exact .cons (dp_keep s d _ hf.1 h1) (dp_keepAll s ds _ hf.2 h2)
end
theorem dpAll_len {K : PySem.W.Frag} {H : Hp} : ∀ {vs : List V} {ds : List PyData}, DpAll K H vs ds → vs.length = ds.length
  | [], _, h => by
    cases h
    rfl
  | v :: vs, _, h => by
    cases h with
    | cons _ h2 => rw [List.length_cons, List.length_cons, dpAll_len h2]
theorem dpAll_append {K : PySem.W.Frag} {H : Hp} : ∀ {vs us : List V} {ds es : List PyData}, DpAll K H vs ds → DpAll K H us es → DpAll K H (vs ++ us) (ds ++ es)
  | [], _, _, _, h, g => by
    cases h
    exact g
  | v :: vs, _, _, _, h, g => by
    cases h with
    | cons h1 h2 => exact .cons h1 (dpAll_append h2 g)
theorem dpAll_at {K : PySem.W.Frag} {H : Hp} : ∀ {vs : List V} {ds : List PyData} {i : Nat} {v : V}, DpAll K H vs ds → vs[i]? = some v → ∃ d, ds[i]? = some d ∧ Dp K H v d
  | _, _, 0, v, .cons h _, e => by
    cases e
    exact ⟨_, rfl, h⟩
  | _, _, i + 1, v, .cons _ h, e => by
    rw [List.getElem?_cons_succ] at e ⊢
    exact dpAll_at h e
  | _, _, _, _, .nil, e => by simp at e
theorem flatDs_append : ∀ {xs ys : List PyData}, flatDs xs = true → flatDs ys = true → flatDs (xs ++ ys) = true
  | [], _, _, h => h
  | x :: xs, ys, h, g => by
    rw [flatDs, Bool.and_eq_true] at h
    rw [List.cons_append, flatDs, h.1, flatDs_append h.2 g]
    rfl
theorem new_tup {K : PySem.W.Frag} {H : Hp} {vs : List V} {ds : List PyData} {p : Addr} (hd : DpAll K H vs ds) (hf : flatDs ds = true) (np : H p = none) : Dp K (upd H p (.tup vs)) (.ref p) (.tuple ds) := .tup (.inl (.inl upd_same)) (dp_keepAll (KeepT.non np) _ _ hf hd)
/-! ### how long a text is -/
def sl (d : PyData) : Nat := d.shown.length
def sls : List PyData → Nat
  | [] => 0
  | d :: ds => sl d + 2 + sls ds
theorem sls_eq : ∀ ds : List PyData, ((PyData.shownAll ds).map (·.length)).sum + 2 * ds.length = sls ds
  | [] => by simp only [PyData.shownAll, List.map_nil, List.sum_nil, List.length_nil, sls]
  | d :: ds => by
    have := sls_eq ds
    simp only [PyData.shownAll, List.map_cons, List.sum_cons, List.length_cons, sls, sl]
    omega
theorem sls_append : ∀ (xs ys : List PyData), sls (xs ++ ys) = sls xs + sls ys
  | [], ys => by simp only [List.nil_append, sls, Nat.zero_add]
  | x :: xs, ys => by
    have := sls_append xs ys
    simp only [List.cons_append, sls]
    omega
theorem sls_le {b : PyData → Nat} : ∀ {ds : List PyData}, (∀ d, d ∈ ds → sl d + 2 ≤ b d) → sls ds ≤ (ds.map b).sum
  | [], _ => Nat.le_refl _
  | d :: ds, h => by
    have h1 := h d List.mem_cons_self
    have h2 := sls_le fun x hx => h x (List.mem_cons_of_mem _ hx)
    simp only [sls, List.map_cons, List.sum_cons]
    omega
theorem sl_tup (ds : List PyData) : sl (.tuple ds) ≤ sls ds + 3 := by
  have h1 := tupleText_len_le (PyData.shownAll ds)
  have h2 := sls_eq ds
  rw [PyData.shownAll_length] at h1
  unfold sl
  simp only [PyData.shown]
  omega
theorem sl_lst (ds : List PyData) : sl (.list ds) ≤ sls ds + 3 := by
  have h1 := listText_len_le (PyData.shownAll ds)
  have h2 := sls_eq ds
  rw [PyData.shownAll_length] at h1
  unfold sl
  simp only [PyData.shown]
  omega
theorem sl_name {z : Str} (h : Nm z) : sl (.str z) ≤ 82 := by
  obtain ⟨_, h2, h3, _⟩ := h
  have e := StrLaws.reprText_len z fun c hc => Nat.lt_of_le_of_lt (h3 c hc).2 (by decide)
  have e2 : z.length = z.cps.toList.length := by
    rw [Array.length_toList]
    rfl
  unfold sl
  rw [PyData.shown_str]
  omega
theorem int_nat {n : Int} (h1 : -(10 ^ 18) ≤ n) (h2 : n ≤ 10 ^ 18) : n.natAbs ≤ 1000000000000000000 := by omega
theorem int_log {n : Int} (h1 : -(10 ^ 18) ≤ n) (h2 : n ≤ 10 ^ 18) : n.natAbs.log2 < 60 := by
  by_cases e : n.natAbs = 0
  · rw [e]; decide
  · exact (Nat.log2_lt e).mpr (Nat.lt_of_le_of_lt (int_nat h1 h2) (by decide))
theorem sl_int {n : Int} (h1 : -(10 ^ 18) ≤ n) (h2 : n ≤ 10 ^ 18) : sl (.int n) ≤ 20 := by
  have e := int_text_length_le10 (k := 19) (by decide) (Nat.lt_of_le_of_lt (int_nat h1 h2) (by decide : 1000000000000000000 < 10 ^ 19))
  unfold sl
  rw [PyData.shown_int, PySem.ofString_length]
  exact e

theorem words_len : ∀ w, w ∈ (["int", "key", "var", "cell", "if", "+", "-", "*", "<", "=", "at", "count", "sum", "most", "first", "in", "let", "need", "tell", "put", "each"] : List Str) → sl (.str w) ≤ 7 := by
  have : ∀ w, w ∈ (["int", "key", "var", "cell", "if", "+", "-", "*", "<", "=", "at", "count", "sum", "most", "first", "in", "let", "need", "tell", "put", "each"] : List Str) → (reprText w).length ≤ 7 := by decide +kernel
  intro w hw
  unfold sl
  rw [PyData.shown_str]
  exact this w hw
/-! ### what is drawn -/
/-- data of tuples, texts and ints, of a bounded depth and length -/
structure Fine (k m : Nat) (x : PyData) : Prop where
  flat : flatD x = true
  shw : x.showable = true
  dep : x.depth ≤ k
  len : sl x + 2 ≤ m
theorem Fine.mono {k m k' m' : Nat} {x : PyData} (h : Fine k m x) (h1 : k ≤ k') (h2 : m ≤ m') : Fine k' m' x := ⟨h.flat, h.shw, Nat.le_trans h.dep h1, Nat.le_trans h.len h2⟩
theorem Fine.str {z : Str} (h : Nm z) : Fine 0 84 (.str z) := ⟨by simp only [flatD], by simp only [PyData.showable], by simp only [PyData.depth]; omega, by have := sl_name h; omega⟩
theorem Fine.word {w : Str} (h : w ∈ (["int", "key", "var", "cell", "if", "+", "-", "*", "<", "=", "at", "count", "sum", "most", "first", "in", "let", "need", "tell", "put", "each"] : List Str)) : Fine 0 9 (.str w) := ⟨by simp only [flatD], by simp only [PyData.showable], by simp only [PyData.depth]; omega, by have := words_len w h; omega⟩
theorem Fine.int {n : Int} (h1 : -(10 ^ 18) ≤ n) (h2 : n ≤ 10 ^ 18) : Fine 0 22 (.int n) := ⟨by simp only [flatD], by
  have := int_log h1 h2
  simp only [PyData.showable]
  exact decide_eq_true (by omega), by simp only [PyData.depth]; omega, by have := sl_int h1 h2; omega⟩
/-- parts of a tuple, with their lengths in all -/
inductive Fines (k : Nat) : Nat → List PyData → Prop
  | nil : Fines k 0 []
  | cons {m n : Nat} {x : PyData} {xs : List PyData} : Fine k m x → Fines k n xs → Fines k (m + n) (x :: xs)
theorem Fines.all {k n : Nat} {xs : List PyData} (h : Fines k n xs) : flatDs xs = true ∧ PyData.showableAll xs = true ∧ PyData.depthAll xs ≤ k ∧ sls xs ≤ n := by
  induction h with
  | nil => exact ⟨by simp only [flatDs], by simp only [PyData.showableAll], by simp only [PyData.depthAll]; omega, Nat.le_refl _⟩
  | cons h1 _ ih =>
    obtain ⟨a, b, c, d⟩ := ih
    refine ⟨by simp only [flatDs, h1.flat, a, Bool.and_self], by simp only [PyData.showableAll, h1.shw, b, Bool.and_self], ?_, ?_⟩
    · have := h1.dep
      simp only [PyData.depthAll]
      omega
    · have := h1.len
      simp only [sls]
      omega
theorem Fines.tup {k n : Nat} {xs : List PyData} (h : Fines k n xs) : Fine (k + 1) (n + 5) (.tuple xs) := by
  obtain ⟨a, b, c, d⟩ := h.all
  refine ⟨by simp only [flatD, a], by simp only [PyData.showable, b], by simp only [PyData.depth]; omega, ?_⟩
  have := sl_tup xs
  omega
theorem Fine.k0 {k m : Nat} {x : PyData} (h : Fine 0 m x) : Fine k m x := h.mono (Nat.zero_le _) (Nat.le_refl _)
end L16

namespace L16
open PySem PySem.Spec PyProof.Rows L2 GR
/-- how many draws, how long -/
def dx : Nat → Int
  | 0 => 10
  | n + 1 => 30 + 6 * dx n
theorem dx_pos : ∀ n, 10 ≤ dx n
  | 0 => by simp only [dx]; omega
  | n + 1 => by
    have := dx_pos n
    simp only [dx]
    omega
def em : Nat → Nat
  | 0 => 100
  | n + 1 => 3 * em n + 240
theorem em_pos : ∀ n, 100 ≤ em n
  | 0 => by simp only [em]; omega
  | n + 1 => by
    have := em_pos n
    simp only [em]
    omega
theorem small1000 {n : Nat} (h : n ≤ 1000) : n < sizeLine := by
  have : sizeLine = 16777216 := by decide
  omega
theorem h1000 {n : Nat} (h : n ≤ 1000) : n ≤ sizeLine := small_le h
theorem noSl_str {z : Str} {pos : Pos} {k} : NoSl (.Constant (.str z) k pos) := fun _ _ => rfl
theorem noSl_name {x : Str} {pos : Pos} : NoSl (.Name x pos) := fun _ _ => rfl
theorem iteA {c : Bool} {A B : Prop} (h : A) (h2 : ¬ c = true → B) : if c = true then A else B := by
  split
  · exact h
  · rename_i e
    exact h2 e
def kv4 (a b c e : Addr) : List (Key × V) := [(.inr "count", .ref a), (.inr "sum", .ref b), (.inr "most", .ref c), (.inr "first", .ref e)]
theorem kv4_1 (a b c e : Addr) : valV (mergeK [] (kv4 a b c e)) (.inr "count") = some (.ref a) := valV_pos rfl
theorem kv4_2 (a b c e : Addr) : valV (mergeK [] (kv4 a b c e)) (.inr "sum") = some (.ref b) := (valV_neg (show ¬ ((.inr "count" : Key) = .inr "sum") by decide)).trans (valV_pos rfl)
theorem kv4_3 (a b c e : Addr) : valV (mergeK [] (kv4 a b c e)) (.inr "most") = some (.ref c) := (valV_neg (show ¬ ((.inr "count" : Key) = .inr "most") by decide)).trans ((valV_neg (show ¬ ((.inr "sum" : Key) = .inr "most") by decide)).trans (valV_pos rfl))
theorem kv4_4 (a b c e : Addr) : valV (mergeK [] (kv4 a b c e)) (.inr "first") = some (.ref e) := (valV_neg (show ¬ ((.inr "count" : Key) = .inr "first") by decide)).trans ((valV_neg (show ¬ ((.inr "sum" : Key) = .inr "first") by decide)).trans ((valV_neg (show ¬ ((.inr "most" : Key) = .inr "first") by decide)).trans (valV_pos rfl)))
theorem Fines.append {k m n : Nat} {xs ys : List PyData} (h : Fines k m xs) (g : Fines k n ys) : Fines k (m + n) (xs ++ ys) := by
  induction h with
  | nil => rw [Nat.zero_add]; exact g
  | @cons a b x xs h1 _ ih =>
    rw [Nat.add_assoc]
    exact .cons h1 ih
/-- one that may be picked -/
def GV (K : PySem.W.Frag) (H : Hp) (v : V) : Prop := ∃ x, Dp K H v x ∧ Fine 3 100 x
theorem GV.keep {K : PySem.W.Frag} {H H' : Hp} {v : V} (h : GV K H v) (k : KeepT H H') : GV K H' v := by
  obtain ⟨x, h1, h2⟩ := h
  exact ⟨x, dp_keep k _ _ h2.flat h1, h2⟩
section
variable {P : Program} {w : World} {K : PySem.W.Frag} {mg : Str → Option Value} {base : Heap}
abbrev s_law_expression : Stmt := topS 12
abbrev N_ex : List Str := ["_law_deck_here", "_law_world_here", "_law_deep", "_law_scope", "_law_loose", "_law_way", "_law_some", "_law_table", "_law_one", "_law_near", "_law_other", "_law_inner", "_law_guard", "_law_word", "_law_name"]
abbrev ps_ex : List Str := ["_law_deck_here", "_law_world_here", "_law_deep", "_law_scope", "_law_loose"]
theorem sc_law_expression : FnScope N_ex ps_ex (defScope s_law_expression) := ⟨rfl, rfl, rfl, by decide +kernel, rfl, by decide +kernel, by decide +kernel⟩
/-- the list of variables that may be used -/
structure Scp (H : Hp) (d c sc : Addr) (scope : List Str) : Prop where
  at' : H sc = some (.lst (scope.map V.str))
  n0 : sc ≠ d ∧ sc ≠ c
  nm : ∀ z, z ∈ scope → Nm z
  len : scope.length ≤ 10
theorem Scp.keep {H H' : Hp} {d c sc : Addr} {scope : List Str} (S : Scp H d c sc scope) (k : Keep d c H H') : Scp H' d c sc scope := ⟨k _ _ S.n0.1 S.n0.2 S.at', S.n0, S.nm, S.len⟩
def sp_expr (K : PySem.W.Frag) (n : Nat) : Sp := fun vs H Q _ => ∃ (d c u tl cl nl sc : Addr) (N deep loose : Int) (ts cs ns scope : List Str), vs = [.ref d, .ref u, .int deep, .ref sc, .int loose] ∧ Deck H d c N ∧ N + dx n < 2 ^ 54 ∧ Wd H d c u tl cl nl ts cs ns ∧ Scp H d c sc scope ∧
  deep ≤ (n : Int) ∧ 0 ≤ loose ∧ loose ≤ 2 ∧ ∀ H' v x, Keep d c H H' → Deck H' d c (N + dx n) → Fine (n + 3) (em n) x → Dp K H' v x → Q v H'
/-- tuples of a word and one more -/
theorem tup2 {k m : Nat} {w : Str} {x : PyData} (hw : w ∈ (["int", "key", "var", "cell", "if", "+", "-", "*", "<", "=", "at", "count", "sum", "most", "first", "in", "let", "need", "tell", "put", "each"] : List Str)) (hx : Fine k m x) : Fine (k + 1) (m + 14) (.tuple [.str w, x]) :=
  ((Fines.cons (Fine.word hw).k0 (.cons hx .nil)).tup).mono (Nat.le_refl _) (by omega)
theorem fine_key : Fine 1 14 (.tuple [.str "key"]) := ((Fines.cons (Fine.word (w := "key") (by decide)).k0 .nil).tup).mono (Nat.le_refl _) (by decide)
theorem ok_expr_step {n : Nat} {f f_law_draw f_law_pick : Addr} {fd fd_law_draw fd_law_pick : FuncData} {k : Nat} (F : Fun K "_law_expression" "_law_expression" s_law_expression f fd) (G_law_draw : FnOk P w K mg base CX0 k f_law_draw fd_law_draw ["_law_deck_here", "_law_most"] sp_draw)
    (g_law_draw : mg "_law_draw" = some (.ref f_law_draw)) (K_law_draw : PySem.W.keepIn K (.ref f_law_draw) = true) (b_law_draw : Binds K fd_law_draw ["_law_deck_here", "_law_most"] [])
    (G_law_pick : FnOk P w K mg base CX0 k f_law_pick fd_law_pick ["_law_deck_here", "_law_some"] (sp_pick K))
    (g_law_pick : mg "_law_pick" = some (.ref f_law_pick)) (K_law_pick : PySem.W.keepIn K (.ref f_law_pick) = true) (b_law_pick : Binds K fd_law_pick ["_law_deck_here", "_law_some"] [])
    (G : FnOk P w K mg base CX0 k f fd ps_ex (fun vs H Q E => ∃ m, n = m + 1 ∧ sp_expr K m vs H Q E)) (g : mg "_law_expression" = some (.ref f)) (Kf : PySem.W.keepIn K (.ref f) = true) (b : Binds K fd ps_ex [])
    (mint : mg "int" = none) (mmax : mg "max" = none) : FnOk P w K mg base CX0 (k + 1) f fd ps_ex (sp_expr K n) := by
  have nd := sc_law_expression.nd
  refine F.ok sc_law_expression (fun vs H Q E h => ?_) (fun cdv A outer s H vs Q E hr h => ?_)
  · obtain ⟨d, c, u, tl, cl, nl, sc, N, deep, loose, ts, cs, ns, scope, rfl, _⟩ := h
    rfl
  obtain ⟨d, c, u, tl, cl, nl, sc, N, deep, loose, ts, cs, ns, scope, rfl, D, hN, W, S, hdeep, hl0, hl2, q⟩ := h
  have hp := dx_pos n
  have hu1 : (A.deeper (envOfC "_law_expression" (defScope s_law_expression) s.heap.objs.size f cdv)).units + 1 < cLine := by
    have := hr.units
    omega
  refine ⟨_, (pss_cons (ps_set (i := 5) nd rfl (.inl rfl) (pe_call G_law_draw hr (by rfl) g_law_draw K_law_draw b_law_draw .nil pass0 (pa_cons (pv 0) (pa_cons pe_int pa_nil))))
      (pss_cons (ps_if (PW.pt (pw_or (pt_cmpR op_lt (pv 2) pe_int (nomark _)) (pw_or1 (pt_cmpR op_lt (pv 5) pe_int (nomark _)))))
      (pss_cons (ps_set (i := 6) nd rfl (.inl rfl) (pe_lst (pa_cons (pe_tup (pa_cons pe_str (pa_cons (pe_call G_law_draw hr (by rfl) g_law_draw K_law_draw b_law_draw .nil pass0 (pa_cons (pv 0) (pa_cons pe_int pa_nil))) pa_nil))) (pa_cons (pe_tup (pa_cons pe_str (pa_cons (pe_ix ix_list (pe_lst (pa_cons (pe_op op_sub (pe_call G_law_draw hr (by rfl) g_law_draw K_law_draw b_law_draw .nil pass0 (pa_cons (pv 0) (pa_cons pe_int pa_nil))) pe_int) (pa_cons (pe_op op_pow pe_int pe_int) pa_nil))) (pe_callTy call_int1 (by rfl) mint boot_int (pa_cons (pe_cmpR op_eq (pe_call G_law_draw hr (by rfl) g_law_draw K_law_draw b_law_draw .nil pass0 (pa_cons (pv 0) (pa_cons pe_int pa_nil))) pe_int (nomark _)) pa_nil)) (fun _ _ => rfl)) pa_nil))) pa_nil))))
        (pss_one (ps_ret (pe_call G_law_pick hr (by rfl) g_law_pick K_law_pick b_law_pick .nil pass0 (pa_cons (pv 0) (pa_cons (pe_op op_cat (pe_op op_cat (pv 6) (pe_lc (own := [("_law_name", 14)]) rfl nd (pi_list (pv 3)) (blkOk_by (N := N_ex) (sc := defScope s_law_expression) (by decide +kernel)) (fun _ _ _ _ _ => (pg_name (i := 14) nd rfl (Or.inl rfl))) (fun _ _ _ _ _ => pts_nil) (te := tTup (tCons (tC (.str "var")) (tCons (tVar 14) tNil))) (fun _ _ _ _ _ => (pe_tup (pa_cons pe_str (pa_cons (pv 14) pa_nil)))))) (pe_op op_rep (pe_lst (pa_cons (pe_tup (pa_cons pe_str pa_nil)) pa_nil)) (pe_callTy call_int1 (by rfl) mint boot_int (pa_cons (pe_cmpR op_gt (pv 4) pe_int (nomark _)) pa_nil)))) pa_nil))))))
      pss_nil)
      (pss_cons (ps_set (i := 7) nd rfl (.inl rfl) (pe_call G_law_pick hr (by rfl) g_law_pick K_law_pick b_law_pick .nil pass0 (pa_cons (pv 0) (pa_cons (pe_dget hu1 (pv 1) pe_str noSl_str) pa_nil))))
      (pss_cons (ps_set (i := 8) nd rfl (.inl rfl) (pe_call G hr (by rfl) g Kf b .nil pass0 (pa_cons (pv 0) (pa_cons (pv 1) (pa_cons (pe_op op_sub (pv 2) pe_int) (pa_cons (pv 3) (pa_cons (pv 4) pa_nil)))))))
      (Evl.pss_cut (ps_set (i := 9) nd rfl (.inl rfl) (pe_ifExp (pt_cmpR op_eq (pv 4) pe_int (nomark _)) (pe_call G hr (by rfl) g Kf b .nil pass0 (pa_cons (pv 0) (pa_cons (pv 1) (pa_cons pe_int (pa_cons (pv 3) (pa_cons (pv 4) pa_nil)))))) (pv 8)))
      (pss_cons (ps_if (pt_cmpR op_lt (pv 5) pe_int (nomark _))
      (pss_one (ps_ret (pe_tup (pa_cons pe_str (pa_cons (pv 7) (pa_cons (pv 9) (pa_cons (pe_call G_law_pick hr (by rfl) g_law_pick K_law_pick b_law_pick .nil pass0 (pa_cons (pv 0) (pa_cons (pe_dget hu1 (pv 1) pe_str noSl_str) pa_nil))) pa_nil)))))))
      pss_nil)
      (pss_cons (ps_set (i := 10) nd rfl (.inl rfl) (pe_call G hr (by rfl) g Kf b .nil pass0 (pa_cons (pv 0) (pa_cons (pv 1) (pa_cons (pe_op op_sub (pv 2) pe_int) (pa_cons (pv 3) (pa_cons (pv 4) pa_nil)))))))
      (pss_cons (ps_if (pt_cmpR op_lt (pv 5) pe_int (nomark _))
      (pss_one (ps_ret (pe_tup (pa_cons (pe_call G_law_pick hr (by rfl) g_law_pick K_law_pick b_law_pick .nil pass0 (pa_cons (pv 0) (pa_cons (pe_lst (pa_cons pe_str (pa_cons pe_str (pa_cons pe_str (pa_cons pe_str (pa_cons pe_str (pa_cons pe_str pa_nil))))))) pa_nil))) (pa_cons (pv 8) (pa_cons (pv 10) pa_nil))))))
      pss_nil)
      (pss_cons (ps_set (i := 11) nd rfl (.inl rfl) (pe_call G hr (by rfl) g Kf b .nil pass0 (pa_cons (pv 0) (pa_cons (pv 1) (pa_cons (pe_op op_sub (pv 2) pe_int) (pa_cons (pv 3) (pa_cons (pe_callB (call_max2 rfl) (by rfl) mmax boot_max (pa_cons pe_int (pa_cons (pv 4) pa_nil))) pa_nil)))))))
      (pss_cons (ps_if (pt_cmpR op_eq (pv 5) pe_int (nomark _))
      (pss_one (ps_ret (pe_tup (pa_cons pe_str (pa_cons (pv 9) (pa_cons (pv 11) pa_nil))))))
      pss_nil)
      (pss_cons (ps_if (PW.pt (pw_or (pt_cmpR op_eq (pv 5) pe_int (nomark _)) (pw_or1 (pt_cmpR op_eq (pv 4) pe_int (nomark _)))))
      (pss_one (ps_ret (pe_tup (pa_cons pe_str (pa_cons (pv 8) (pa_cons (pv 10) (pa_cons (pe_call G hr (by rfl) g Kf b .nil pass0 (pa_cons (pv 0) (pa_cons (pv 1) (pa_cons (pe_op op_sub (pv 2) pe_int) (pa_cons (pv 3) (pa_cons (pv 4) pa_nil)))))) pa_nil)))))))
      pss_nil)
      (pss_cons (ps_set (i := 12) nd rfl (.inl rfl) (pe_call G hr (by rfl) g Kf b .nil pass0 (pa_cons (pv 0) (pa_cons (pv 1) (pa_cons (pe_op op_sub (pv 2) pe_int) (pa_cons (pv 3) (pa_cons pe_int pa_nil)))))))
      (pss_cons (ps_set (i := 13) nd rfl (.inl rfl) (pe_call G_law_pick hr (by rfl) g_law_pick K_law_pick b_law_pick .nil pass0 (pa_cons (pv 0) (pa_cons (pe_lst (pa_cons pe_str (pa_cons pe_str (pa_cons pe_str (pa_cons pe_str pa_nil))))) pa_nil))))
      (pss_cons (ps_set (i := 6) nd rfl (.inl rfl) (pe_tup (pa_cons (pv 13) (pa_cons (pv 7) (pa_cons (pe_tup pa_nil) (pa_cons (pe_tup (pa_cons pe_str (pa_cons (pv 7) (pa_cons (pe_tup (pa_cons pe_str pa_nil)) (pa_cons pe_str pa_nil))))) (pa_cons (pv 12) pa_nil)))))))
      (pss_one (ps_ret (pe_op op_catT (pv 6) (pe_dget hu1 (pe_disp (pps_cons pe_str (pe_tup pa_nil) (pps_cons pe_str (pe_tup (pa_cons (pv 11) pa_nil)) (pps_cons pe_str (pe_tup (pa_cons (pv 11) (pa_cons (pv 10) pa_nil))) (pps_cons pe_str (pe_tup (pa_cons (pv 10) pa_nil)) pps_nil)))) (by decide) rfl (by simp) (by decide)) (pv 13) noSl_name)))))))))))))))))), ?_⟩
  have LIM : (10 : Int) ^ 18 = 1000000000000000000 := by decide
  refine ⟨.ref d, rfl, d, c, N, 12, rfl, D, by omega, by decide, by decide, fun H1 way k1 D1 w0 w1 => ?_⟩
  refine ⟨.int deep, rfl, _, _, rfl, rfl, _, rfl, iteA ?leaf (fun e => ⟨.int way, rfl, _, _, rfl, rfl, _, rfl, iteA ?leaf (fun e2 => ?rest)⟩)⟩
  case leaf =>
    have S1 := S.keep k1
    refine ⟨.ref d, rfl, d, c, _, 5, rfl, D1, by omega, by decide, by decide, fun H2 r2 k2 D2 a2 b2 => ⟨h1000 (show 2 ≤ 1000 by decide), fun p1 n1 => ?_⟩⟩
    have g1 : GV K (upd H2 p1 (.tup [.str "int", .int r2])) (.ref p1) := ⟨_, new_tup (.cons (.str "int") (.cons (.int r2) .nil)) rfl n1, (tup2 (by decide) (Fine.int (by omega) (by omega))).mono (by decide) (by decide)⟩
    have s1 := same_upd (o := .tup [.str "int", .int r2]) n1
    have D3 := D2.same s1
    have k3 := (k1.trans k2).trans (Keep.of s1)
    revert g1 D3 k3
    clear s1
    generalize upd H2 p1 (.tup [.str "int", .int r2]) = H3
    intro g1 D3 k3
    refine ⟨.ref d, rfl, d, c, _, 9, rfl, D3, by omega, by decide, by decide, fun H4 r4 k4 D4 a4 b4 => ⟨_, _, rfl, rfl, _, _, rfl, rfl, ?_⟩⟩
    refine ⟨⟨by decide, by decide⟩, h1000 (show 2 ≤ 1000 by decide), fun l nl => ?_⟩
    dsimp only
    rw [show (10 : Int) ^ (18 : Int).toNat = 10 ^ 18 from rfl]
    have sl := same_upd (o := .lst [.int (r4 - 3), .int (10 ^ 18)]) nl
    have hl : upd H4 l (.lst [.int (r4 - 3), .int (10 ^ 18)]) l = some (.lst [.int (r4 - 3), .int (10 ^ 18)]) := upd_same
    have hln := D4.new nl
    have D5 := D4.same sl
    have g4 := (g1.keep (k4.t D3)).keep (KeepT.of sl)
    have k5 := (k3.trans k4).trans (Keep.of sl)
    revert hl D5 g4 k5
    clear sl
    generalize upd H4 l (.lst [.int (r4 - 3), .int (10 ^ 18)]) = H5
    intro hl D5 g4 k5
    refine ⟨.ref d, rfl, d, c, _, 8, rfl, D5, by omega, by decide, by decide, fun H6 r6 k6 D6 a6 b6 => ⟨rfl, .inr ⟨_, rfl, ?_⟩⟩⟩
    have hl6 := k6 _ _ hln.1 hln.2 hl
    have g6 := g4.keep (k6.t D5)
    have k06 := k5.trans k6
    obtain ⟨y, hy1, hy2, hy3⟩ : ∃ y : Int, -(10 ^ 18) ≤ y ∧ y ≤ 10 ^ 18 ∧ atI [V.int (r4 - 3), V.int (10 ^ 18)] (if decide (V.int r6 = V.int 5) = true then 1 else 0) = some (.int y) := by
      by_cases e : V.int r6 = V.int 5
      · rw [decide_eq_true e]
        exact ⟨10 ^ 18, by omega, by omega, at1⟩
      · rw [decide_eq_false e]
        exact ⟨r4 - 3, by omega, by omega, at0⟩
    refine ⟨l, _, _, .int y, rfl, rfl, .inl (.inl hl6), hy3, h1000 (show 2 ≤ 1000 by decide), fun p2 n2 => ⟨h1000 (show 2 ≤ 1000 by decide), fun ls nls => ?_⟩⟩
    have g7 : GV K (upd H6 p2 (.tup [.str "int", .int y])) (.ref p2) := ⟨_, new_tup (.cons (.str "int") (.cons (.int y) .nil)) rfl n2, (tup2 (by decide) (Fine.int hy1 hy2)).mono (by decide) (by decide)⟩
    have s7 := same_upd (o := .tup [.str "int", .int y]) n2
    have s8 := same_upd (o := .lst [.ref p1, .ref p2]) nls
    have hls : upd (upd H6 p2 (.tup [.str "int", .int y])) ls (.lst [.ref p1, .ref p2]) ls = some (.lst [.ref p1, .ref p2]) := upd_same
    have s78 := s7.trans s8
    have g8 := g7.keep (KeepT.of s8)
    have g81 := g6.keep (KeepT.of s78)
    have D8 := D6.same s78
    have k8 := k06.trans (Keep.of s78)
    revert hls g8 g81 D8 k8
    clear s78 s8 s7 g7 nls n2
    generalize upd (upd H6 p2 (.tup [.str "int", .int y])) ls (.lst [.ref p1, .ref p2]) = H8
    intro hls g8 g81 D8 k8
    have S8 := S.keep k8
    refine ⟨.ref d, rfl, .ref ls, rfl, .ref sc, rfl, sc, rfl, ⟨_, .inl (.inl S8.at')⟩, fun B nB => ?_⟩
    have hBd := D8.new nB
    have hBs : sc ≠ B := ne_of_none S8.at' nB
    have hBl : ls ≠ B := ne_of_none hls nB
    refine lc_list (xs := scope.map V.str) (fun i H' => ∃ us, H' B = some (.lst us) ∧ us.length = i ∧ (∀ v, v ∈ us → GV K H' v) ∧ ∀ b ob, b ≠ B → H8 b = some ob → H' b = some ob) ?_ ?_ ?_ ?_
    · exact ⟨[], upd_same, rfl, fun v hv => (nomatch hv), fun b ob nb e => by rw [upd_ne nb]; exact e⟩
    · rintro i H' _ ⟨us, _, _, _, kk⟩
      exact .inl (.inl (kk _ _ hBs S8.at'))
    · rintro i x H9 hx ⟨us, hB, hl9, hg, kk⟩
      rw [List.getElem?_map] at hx
      obtain ⟨z, hz, rfl⟩ := Option.map_eq_some_iff.mp hx
      have hi : i < scope.length := (List.getElem?_eq_some_iff.mp hz).1
      have hsl := S.len
      refine ⟨rfl, yes_then ⟨.str z, rfl, h1000 (show 2 ≤ 1000 by decide), fun pz npz => ?_⟩⟩
      have sz := same_upd (o := .tup [.str "var", .str z]) npz
      have gz : GV K (upd H9 pz (.tup [.str "var", .str z])) (.ref pz) := ⟨_, new_tup (.cons (.str "var") (.cons (.str z) .nil)) rfl npz, (tup2 (by decide) (Fine.str (S.nm z (List.mem_of_getElem? hz)))).mono (by decide) (by decide)⟩
      have hB2 := sz _ _ hB
      have kB : KeepT (upd H9 pz (.tup [.str "var", .str z])) (upd (upd H9 pz (.tup [.str "var", .str z])) B (.lst (us ++ [.ref pz]))) := KeepT.lst hB2
      refine ⟨us, hB2, small1000 (by omega), us ++ [.ref pz], upd_same, by rw [List.length_append, hl9]; rfl, fun v hv => ?_, fun b ob nb e => ?_⟩
      · rcases List.mem_append.mp hv with h | h
        · exact ((hg v h).keep (KeepT.of sz)).keep kB
        · rw [List.mem_singleton.mp h]
          exact gz.keep kB
      · rw [upd_ne nb]
        exact sz _ _ (kk b ob nb e)
    · rintro H9 ⟨us, hB, hl9, hg, kk⟩
      rw [List.length_map] at hl9
      have hsl := S.len
      have s89 : Same H8 H9 := fun b ob e => kk b ob (ne_of_none e nB) e
      refine ⟨ls, B, _, _, rfl, rfl, s89 _ _ hls, hB, h1000 (show 2 + us.length ≤ 1000 by omega), fun L1 nL1 => ?_⟩
      have sA := same_upd (o := .lst ([.ref p1, .ref p2] ++ us)) nL1
      have hL1 : upd H9 L1 (.lst ([.ref p1, .ref p2] ++ us)) L1 = some (.lst ([.ref p1, .ref p2] ++ us)) := upd_same
      have hgA : ∀ v, v ∈ [.ref p1, .ref p2] ++ us → GV K (upd H9 L1 (.lst ([.ref p1, .ref p2] ++ us))) v := fun v hv => by
        rcases List.mem_append.mp hv with h | h
        · simp only [List.mem_cons, List.not_mem_nil, or_false] at h
          rcases h with rfl | rfl
          · exact g81.keep (KeepT.of (s89.trans sA))
          · exact g8.keep (KeepT.of (s89.trans sA))
        · exact (hg v h).keep (KeepT.of sA)
      have D9 := D8.same (s89.trans sA)
      have k9 := k8.trans (Keep.of (s89.trans sA))
      have lA : ([V.ref p1, .ref p2] ++ us).length ≤ 12 := by
        rw [List.length_append]
        show 2 + us.length ≤ 12
        omega
      have nA : [V.ref p1, .ref p2] ++ us ≠ [] := List.cons_ne_nil _ _
      revert hL1 hgA D9 k9 lA nA
      clear sA nL1
      generalize [V.ref p1, .ref p2] ++ us = uA
      generalize upd H9 L1 (.lst uA) = H10
      intro hL1 hgA D9 k9 lA nA
      refine ⟨h1000 (show 1 ≤ 1000 by decide), fun pk npk => ⟨h1000 (show 1 ≤ 1000 by decide), fun lk nlk => ⟨.int loose, rfl, _, _, rfl, rfl, .inr ⟨_, rfl, ?_⟩⟩⟩⟩
      have gk : GV K (upd H10 pk (.tup [.str "key"])) (.ref pk) := ⟨_, new_tup (.cons (.str "key") .nil) rfl npk, fine_key.mono (by decide) (by decide)⟩
      have sk := same_upd (o := .tup [.str "key"]) npk
      have skl := same_upd (o := .lst [.ref pk]) nlk
      have hlk : upd (upd H10 pk (.tup [.str "key"])) lk (.lst [.ref pk]) lk = some (.lst [.ref pk]) := upd_same
      have gk2 := gk.keep (KeepT.of skl)
      have s10 := sk.trans skl
      revert hlk gk2 s10
      clear sk skl gk nlk npk
      generalize upd (upd H10 pk (.tup [.str "key"])) lk (.lst [.ref pk]) = H11
      intro hlk gk2 s10
      refine ⟨lk, _, _, rfl, rfl, hlk, ?_, ?_, ?_, fun L2 nL2 => ?_⟩
      · split <;> decide
      · split <;> decide
      · split
        · exact h1000 (show 1 * 1 ≤ 1000 by decide)
        · exact h1000 (show 1 * 0 ≤ 1000 by decide)
      have hB1 : ∀ v, v ∈ (List.replicate (if decide (loose > 0) = true then 1 else 0 : Int).toNat [V.ref pk]).flatten → v = V.ref pk := by
        intro v hv
        split at hv <;> simpa using hv
      have hB2 : (List.replicate (if decide (loose > 0) = true then 1 else 0 : Int).toNat [V.ref pk]).flatten.length ≤ 1 := by
        split
        · exact Nat.le_refl 1
        · exact Nat.zero_le 1
      revert hB1 hB2
      generalize (List.replicate (if decide (loose > 0) = true then 1 else 0 : Int).toNat [V.ref pk]).flatten = uB
      intro hB1 hB2
      have s11 := same_upd (o := .lst uB) nL2
      have hL2 : upd H11 L2 (.lst uB) L2 = some (.lst uB) := upd_same
      have s12 := s10.trans s11
      have g12 := gk2.keep (KeepT.of s11)
      revert hL2 s12 g12
      clear s11 nL2
      generalize upd H11 L2 (.lst uB) = H12
      intro hL2 s12 g12
      refine ⟨L1, L2, _, _, rfl, rfl, s12 _ _ hL1, hL2, h1000 (by omega), fun L3 nL3 => ?_⟩
      have s13 := same_upd (o := .lst (uA ++ uB)) nL3
      have D13 := D9.same (s12.trans s13)
      have k13 := k9.trans (Keep.of (s12.trans s13))
      have h3 := (D9.same s12).new nL3
      refine .inl ⟨d, c, L3, _, uA ++ uB, rfl, D13, by omega, .inl (.inl upd_same), fun e => nA (List.append_eq_nil_iff.mp e).1, by rw [List.length_append]; omega, h3.1, h3.2, fun H14 v k14 D14 hv => ?_⟩
      obtain ⟨x, hx1, hx2⟩ : GV K (upd H12 L3 (.lst (uA ++ uB))) v := by
        rcases List.mem_append.mp hv with h | h
        · exact (hgA v h).keep (KeepT.of (s12.trans s13))
        · rw [hB1 v h]
          exact g12.keep (KeepT.of s13)
      exact q H14 v x (k13.trans k14) (D14.mono (by omega)) (hx2.mono (by omega) (em_pos n)) (dp_keep (k14.t D13) _ _ hx2.flat hx1)
  case rest =>
    have e' : ¬ deep < 1 := by simpa using e
    obtain ⟨m, rfl⟩ : ∃ m, n = m + 1 := ⟨n - 1, by omega⟩
    have hdx : dx (m + 1) = 30 + 6 * dx m := rfl
    have hem : em (m + 1) = 3 * em m + 240 := rfl
    have hpm := dx_pos m
    have hme := em_pos m
    have W1 := W.keep k1
    -- the table
    refine ⟨.ref d, rfl, .ref u, rfl, u, .ref tl, rfl, ?_, .inl ⟨d, c, tl, _, _, rfl, D1, by omega, .inl (.inl W1.ht), ?_, ?_, W1.t0.1, W1.t0.2, fun H2 vt k2 D2 hvt => ?_⟩⟩
    · rw [← wD_t tl cl nl]
      exact DGet.k (k := .inr "tables") W1.dct
    · intro e
      have := congrArg List.length e
      rw [List.length_map, W.lt] at this
      cases this
    · rw [List.length_map, W.lt]
      decide
    obtain ⟨t, ht, rfl⟩ := List.mem_map.mp hvt
    have ft := Fine.str (W.at' t ht)
    have k02 := k1.trans k2
    -- one
    refine ⟨.ref d, rfl, .ref u, rfl, .int deep, rfl, deep, 1, rfl, rfl, .ref sc, rfl, .int loose, rfl, m, rfl, d, c, u, tl, cl, nl, sc, _, deep - 1, loose, ts, cs, ns, scope, rfl, D2, by omega, W.keep k02, S.keep k02, by omega, hl0, hl2, fun H3 v1 x1 k3 D3x f1 p1 => ?_⟩
    have k03 := k02.trans k3
    -- near
    refine ⟨fun σ' H' => ∃ vn xn, σ' = [some (.ref d), some (.ref u), some (.int deep), some (.ref sc), some (.int loose), some (.int way), none, some (.str t), some v1, some vn, none, none, none, none, none] ∧ Keep d c H H' ∧ Deck H' d c (N + 2 + 2 * dx m) ∧ Dp K H' v1 x1 ∧ Dp K H' vn xn ∧ Fine (m + 3) (em m) xn, ?_, ?_⟩
    · refine ⟨.int loose, rfl, rfl, _, rfl, ite2 (fun e3 => ?_) (fun e3 => ?_)⟩
      · refine ⟨.ref d, rfl, .ref u, rfl, .ref sc, rfl, .int loose, rfl, m, rfl, d, c, u, tl, cl, nl, sc, _, 0, loose, ts, cs, ns, scope, rfl, D3x, by omega, W.keep k03, S.keep k03, by omega, hl0, hl2, fun H4 vn xn k4 D4 fn pn => ?_⟩
        exact ⟨vn, xn, rfl, k03.trans k4, D4.mono (by omega), dp_keep (k4.t D3x) _ _ f1.flat p1, pn, fn⟩
      · exact ⟨v1, rfl, v1, x1, rfl, k03, D3x.mono (by omega), p1, p1, f1⟩
    rintro σ' H4 ⟨vn, xn, rfl, k04, D4, p14, pn4, fn⟩
    have W4 := W.keep k04
    have S4 := S.keep k04
    -- a cell
    refine ⟨.int way, rfl, _, _, rfl, rfl, _, rfl, ite2 (fun e4 => ?_) (fun e4 => ?_)⟩
    · refine ⟨.str t, rfl, vn, rfl, .ref d, rfl, .ref u, rfl, u, .ref cl, rfl, ?_, .inl ⟨d, c, cl, _, _, rfl, D4, by omega, .inl (.inl W4.hc), ?_, ?_, W4.c0.1, W4.c0.2, fun H5 vc k5 D5 hvc => ?_⟩⟩
      · rw [← wD_c tl cl nl]
        exact DGet.k (k := .inr "columns") W4.dct
      · intro e
        have := congrArg List.length e
        rw [List.length_map, W.lc] at this
        cases this
      · rw [List.length_map, W.lc]
        decide
      obtain ⟨z, hz, rfl⟩ := List.mem_map.mp hvc
      have fz := Fine.str (W.ac z hz)
      refine ⟨h1000 (show 4 ≤ 1000 by decide), fun p np => ?_⟩
      have s6 := same_upd (o := .tup [.str "cell", .str t, vn, .str z]) np
      have pn5 := dp_keep (k5.t D4) _ _ fn.flat pn4
      have F := (Fines.cons (Fine.word (w := "cell") (by decide)).k0 (.cons ft.k0 (.cons fn (.cons fz.k0 .nil)))).tup
      exact q _ _ _ ((k04.trans k5).trans (Keep.of s6)) ((D5.same s6).mono (by omega)) (F.mono (by omega) (by omega)) (new_tup (.cons (.str _) (.cons (.str _) (.cons pn5 (.cons (.str _) .nil)))) (by simp only [flatDs, flatD, fn.flat, Bool.and_self]) np)
    -- the other
    refine ⟨.ref d, rfl, .ref u, rfl, .int deep, rfl, deep, 1, rfl, rfl, .ref sc, rfl, .int loose, rfl, m, rfl, d, c, u, tl, cl, nl, sc, _, deep - 1, loose, ts, cs, ns, scope, rfl, D4, by omega, W4, S4, by omega, hl0, hl2, fun H5 v2 x2 k5 D5 f2 p2 => ?_⟩
    have k05 := k04.trans k5
    have p15 := dp_keep (k5.t D4) _ _ f1.flat p14
    have pn5 := dp_keep (k5.t D4) _ _ fn.flat pn4
    refine ⟨.int way, rfl, _, _, rfl, rfl, _, rfl, ite2 (fun e5 => ?_) (fun e5 => ?_)⟩
    · refine ⟨.ref d, rfl, h1000 (show 6 ≤ 1000 by decide), fun l nl => ?_⟩
      have sl := same_upd (o := .lst [.str "+", .str "-", .str "*", .str "<", .str "=", .str "+"]) nl
      have hln := D5.new nl
      refine .inl ⟨d, c, l, _, [.str "+", .str "-", .str "*", .str "<", .str "=", .str "+"], rfl, D5.same sl, by omega, .inl (.inl upd_same), List.cons_ne_nil _ _, (show 6 ≤ 1000 by decide), hln.1, hln.2, fun H6 vo k6 D6 hvo => ?_⟩
      obtain ⟨o, ho, rfl⟩ : ∃ o : Str, o ∈ (["int", "key", "var", "cell", "if", "+", "-", "*", "<", "=", "at", "count", "sum", "most", "first", "in", "let", "need", "tell", "put", "each"] : List Str) ∧ vo = .str o := by
        simp only [List.mem_cons, List.not_mem_nil, or_false] at hvo
        rcases hvo with rfl | rfl | rfl | rfl | rfl | rfl
        · exact ⟨_, by decide, rfl⟩
        · exact ⟨_, by decide, rfl⟩
        · exact ⟨_, by decide, rfl⟩
        · exact ⟨_, by decide, rfl⟩
        · exact ⟨_, by decide, rfl⟩
        · exact ⟨_, by decide, rfl⟩
      have kt6 := (KeepT.of sl).trans (k6.t (D5.same sl))
      refine ⟨v1, rfl, v2, rfl, h1000 (show 3 ≤ 1000 by decide), fun p np => ?_⟩
      have s7 := same_upd (o := .tup [.str o, v1, v2]) np
      have F := (Fines.cons (Fine.word ho).k0 (.cons f1 (.cons f2 .nil))).tup
      exact q _ _ _ ((k05.trans (Keep.of sl)).trans (k6.trans (Keep.of s7))) ((D6.same s7).mono (by omega)) (F.mono (by omega) (by omega)) (new_tup (.cons (.str _) (.cons (dp_keep kt6 _ _ f1.flat p15) (.cons (dp_keep kt6 _ _ f2.flat p2) .nil))) (by simp only [flatDs, flatD, f1.flat, f2.flat, Bool.and_self]) np)
    -- the inner one
    have W5 := W.keep k05
    have S5 := S.keep k05
    refine ⟨.ref d, rfl, .ref u, rfl, .int deep, rfl, deep, 1, rfl, rfl, .ref sc, rfl, .int loose, rfl, _, _, rfl, m, rfl, d, c, u, tl, cl, nl, sc, _, deep - 1, _, ts, cs, ns, scope, rfl, D5, by omega, W5, S5, by omega, ?_, ?_, fun H6 v3 x3 k6 D6 f3 p3 => ?_⟩
    · split <;> omega
    · split <;> omega
    have k06 := k05.trans k6
    have p16 := dp_keep (k6.t D5) _ _ f1.flat p15
    have pn6 := dp_keep (k6.t D5) _ _ fn.flat pn5
    have p26 := dp_keep (k6.t D5) _ _ f2.flat p2
    refine ⟨.int way, rfl, rfl, _, rfl, ite2 (fun e6 => ?_) (fun e6 => ?_)⟩
    · refine ⟨vn, rfl, v3, rfl, h1000 (show 3 ≤ 1000 by decide), fun p np => ?_⟩
      have s7 := same_upd (o := .tup [.str "at", vn, v3]) np
      have F := (Fines.cons (Fine.word (w := "at") (by decide)).k0 (.cons fn (.cons f3 .nil))).tup
      exact q _ _ _ (k06.trans (Keep.of s7)) ((D6.same s7).mono (by omega)) (F.mono (by omega) (by omega)) (new_tup (.cons (.str _) (.cons pn6 (.cons p3 .nil))) (by simp only [flatDs, flatD, fn.flat, f3.flat, Bool.and_self]) np)
    refine ⟨.int way, rfl, rfl, _, rfl, iteA ?aif (fun e7 => ⟨.int loose, rfl, rfl, _, rfl, iteA ?aif (fun e8 => ?agg)⟩)⟩
    case aif =>
      refine ⟨v1, rfl, v2, rfl, .ref d, rfl, .ref u, rfl, .int deep, rfl, deep, 1, rfl, rfl, .ref sc, rfl, .int loose, rfl, m, rfl, d, c, u, tl, cl, nl, sc, _, deep - 1, loose, ts, cs, ns, scope, rfl, D6, by omega, W.keep k06, S.keep k06, by omega, hl0, hl2, fun H7 v4 x4 k7 D7 f4 p4 => ⟨h1000 (show 4 ≤ 1000 by decide), fun p np => ?_⟩⟩
      have s8 := same_upd (o := .tup [.str "if", v1, v2, v4]) np
      have F := (Fines.cons (Fine.word (w := "if") (by decide)).k0 (.cons f1 (.cons f2 (.cons f4 .nil)))).tup
      exact q _ _ _ ((k06.trans k7).trans (Keep.of s8)) ((D7.same s8).mono (by omega)) (F.mono (by omega) (by omega)) (new_tup (.cons (.str _) (.cons (dp_keep (k7.t D6) _ _ f1.flat p16) (.cons (dp_keep (k7.t D6) _ _ f2.flat p26) (.cons p4 .nil)))) (by simp only [flatDs, flatD, f1.flat, f2.flat, f4.flat, Bool.and_self]) np)
    case agg =>
      refine ⟨.ref d, rfl, .ref u, rfl, .int deep, rfl, deep, 2, rfl, rfl, .ref sc, rfl, m, rfl, d, c, u, tl, cl, nl, sc, _, deep - 2, 1, ts, cs, ns, scope, rfl, D6, by omega, W.keep k06, S.keep k06, by omega, by decide, by decide, fun H7 v5 x5 k7 D7 f5 p5 => ?_⟩
      have k07 := k06.trans k7
      have p27 := dp_keep (k7.t D6) _ _ f2.flat p26
      have p37 := dp_keep (k7.t D6) _ _ f3.flat p3
      refine ⟨.ref d, rfl, h1000 (show 4 ≤ 1000 by decide), fun l nl => ?_⟩
      have sl := same_upd (o := .lst [.str "count", .str "sum", .str "most", .str "first"]) nl
      have hln := D7.new nl
      refine .inl ⟨d, c, l, _, [.str "count", .str "sum", .str "most", .str "first"], rfl, D7.same sl, by omega, .inl (.inl upd_same), List.cons_ne_nil _ _, (show 4 ≤ 1000 by decide), hln.1, hln.2, fun H8 vo k8 D8 hvo => ?_⟩
      have kt8 := (KeepT.of sl).trans (k8.t (D7.same sl))
      have k08 := (k07.trans (Keep.of sl)).trans k8
      have p28 := dp_keep kt8 _ _ f2.flat p27
      have p38 := dp_keep kt8 _ _ f3.flat p37
      have p58 := dp_keep kt8 _ _ f5.flat p5
      obtain ⟨o, ho4, rfl⟩ : ∃ o : Str, (o = "count" ∨ o = "sum" ∨ o = "most" ∨ o = "first") ∧ vo = .str o := by
        simp only [List.mem_cons, List.not_mem_nil, or_false] at hvo
        rcases hvo with rfl | rfl | rfl | rfl
        · exact ⟨_, .inl rfl, rfl⟩
        · exact ⟨_, .inr (.inl rfl), rfl⟩
        · exact ⟨_, .inr (.inr (.inl rfl)), rfl⟩
        · exact ⟨_, .inr (.inr (.inr rfl)), rfl⟩
      have ho : o ∈ (["int", "key", "var", "cell", "if", "+", "-", "*", "<", "=", "at", "count", "sum", "most", "first", "in", "let", "need", "tell", "put", "each"] : List Str) := by
        rcases ho4 with rfl | rfl | rfl | rfl <;> decide
      refine ⟨.str o, rfl, .str t, rfl, Nat.zero_le _, fun z0 m0 => ⟨.str t, rfl, h1000 (show 1 ≤ 1000 by decide), fun z1 m1 => ⟨h1000 (show 4 ≤ 1000 by decide), fun z2 m2 => ⟨v5, rfl, h1000 (show 5 ≤ 1000 by decide), fun z3 m3 => ?_⟩⟩⟩⟩
      have t0 := same_upd (o := .tup []) m0
      have t1 := same_upd (o := .tup [.str "key"]) m1
      have t2 := same_upd (o := .tup [.str "cell", .str t, .ref z1, .str "in"]) m2
      have t3 := same_upd (o := .tup [.str o, .str t, .ref z0, .ref z2, v5]) m3
      have b0 : Dp K (upd H8 z0 (.tup [])) (.ref z0) (.tuple []) := .tup (.inl (.inl upd_same)) .nil
      have b1 := new_tup (K := K) (.cons (.str "key") .nil) rfl m1
      have b2 := new_tup (K := K) (.cons (.str "cell") (.cons (.str t) (.cons b1 (.cons (.str "in") .nil)))) rfl m2
      have b0' := dp_keep (KeepT.of ((t1.trans t2).trans t3)) _ _ rfl b0
      have b2' := dp_keep (KeepT.of t3) _ _ rfl b2
      have t03 := ((t0.trans t1).trans t2).trans t3
      have hz3 : upd (upd (upd (upd H8 z0 (.tup [])) z1 (.tup [.str "key"])) z2 (.tup [.str "cell", .str t, .ref z1, .str "in"])) z3 (.tup [.str o, .str t, .ref z0, .ref z2, v5]) z3 = some (.tup [.str o, .str t, .ref z0, .ref z2, v5]) := upd_same
      clear t0 t1 t2 t3 b0 b1 b2 m0 m1 m2 m3
      revert b0' b2' t03 hz3
      generalize upd (upd (upd (upd H8 z0 (.tup [])) z1 (.tup [.str "key"])) z2 (.tup [.str "cell", .str t, .ref z1, .str "in"])) z3 (.tup [.str o, .str t, .ref z0, .ref z2, v5]) = H9
      intro b0' b2' t03 hz3
      have p29 := dp_keep (KeepT.of t03) _ _ f2.flat p28
      have p39 := dp_keep (KeepT.of t03) _ _ f3.flat p38
      have p59 := dp_keep (KeepT.of t03) _ _ f5.flat p58
      have k09 := k08.trans (Keep.of t03)
      have D9 := D8.same t03
      refine ⟨.ref z3, rfl, fun pd npd => ⟨Nat.zero_le _, fun y0 j0 => ⟨v3, rfl, h1000 (show 1 ≤ 1000 by decide), fun y1 j1 => ⟨v3, rfl, v2, rfl, h1000 (show 2 ≤ 1000 by decide), fun y2 j2 => ⟨v2, rfl, h1000 (show 1 ≤ 1000 by decide), fun y3 j3 => ?_⟩⟩⟩⟩⟩
      have r0 := same_upd (o := .dK []) npd
      have r1 := same_upd (o := .tup []) j0
      have r2 := same_upd (o := .tup [v3]) j1
      have r3 := same_upd (o := .tup [v3, v2]) j2
      have r4 := same_upd (o := .tup [v2]) j3
      have r14 := ((r1.trans r2).trans r3).trans r4
      have hpd := r14 _ _ (show upd H9 pd (.dK []) pd = _ from upd_same)
      have a0 := ((r2.trans r3).trans r4) _ _ (show upd (upd H9 pd (.dK [])) y0 (.tup []) y0 = _ from upd_same)
      have a1 := (r3.trans r4) _ _ (show upd (upd (upd H9 pd (.dK [])) y0 (.tup [])) y1 (.tup [v3]) y1 = _ from upd_same)
      have a2 := r4 _ _ (show upd (upd (upd (upd H9 pd (.dK [])) y0 (.tup [])) y1 (.tup [v3])) y2 (.tup [v3, v2]) y2 = _ from upd_same)
      have a3 : upd (upd (upd (upd (upd H9 pd (.dK [])) y0 (.tup [])) y1 (.tup [v3])) y2 (.tup [v3, v2])) y3 (.tup [v2]) y3 = _ := upd_same
      have r04 := r0.trans r14
      clear r0 r1 r2 r3 r4 r14 j0 j1 j2 j3
      revert hpd a0 a1 a2 a3 r04
      generalize upd (upd (upd (upd (upd H9 pd (.dK [])) y0 (.tup [])) y1 (.tup [v3])) y2 (.tup [v3, v2])) y3 (.tup [v2]) = H10
      intro hpd a0 a1 a2 a3 r04
      have r05 : Same H9 (upd H10 pd (.dK (mergeK [] (kv4 y0 y1 y2 y3)))) := fun b ob e => by
        rw [upd_ne (ne_of_none e npd)]
        exact r04 _ _ e
      have tu : ∀ (b : Addr) (xs : List V), H10 b = some (.tup xs) → upd H10 pd (.dK (mergeK [] (kv4 y0 y1 y2 y3))) b = some (.tup xs) := fun b xs e => by
        rw [upd_ne (ne_of e hpd (fun z => by cases z))]
        exact e
      have hpd2 : upd H10 pd (.dK (mergeK [] (kv4 y0 y1 y2 y3))) pd = some (.dK (mergeK [] (kv4 y0 y1 y2 y3))) := upd_same
      have a0' := tu _ _ a0
      have a1' := tu _ _ a1
      have a2' := tu _ _ a2
      have a3' := tu _ _ a3
      refine ⟨hpd, kv4 y0 y1 y2 y3, rfl, (show 4 ≤ 15 by decide), .str o, rfl, ?_⟩
      clear tu a0 a1 a2 a3 r04
      revert r05 hpd2 a0' a1' a2' a3'
      generalize upd H10 pd (.dK (mergeK [] (kv4 y0 y1 y2 y3))) = H11
      intro r05 hpd2 a0' a1' a2' a3'
      have z11 := r05 _ _ hz3
      have q0 := dp_keep (KeepT.of r05) _ _ rfl b0'
      have q2 := dp_keep (KeepT.of r05) _ _ rfl b2'
      have q5 := dp_keep (KeepT.of r05) _ _ f5.flat p59
      have q3 := dp_keep (KeepT.of r05) _ _ f3.flat p39
      have q2' := dp_keep (KeepT.of r05) _ _ f2.flat p29
      have k11 := k09.trans (Keep.of r05)
      have D11 := D9.same r05
      obtain ⟨yo, vs, ds, L, hval, hyo, hds, hfs, hL, hvl⟩ : ∃ (yo : Addr) (vs : List V) (ds : List PyData) (L : Nat), valV (mergeK [] (kv4 y0 y1 y2 y3)) (.inr o) = some (.ref yo) ∧ H11 yo = some (.tup vs) ∧ DpAll K H11 vs ds ∧ Fines (m + 3) L ds ∧ L ≤ 2 * em m ∧ vs.length ≤ 2 := by
        rcases ho4 with rfl | rfl | rfl | rfl
        · exact ⟨y0, [], [], 0, kv4_1 _ _ _ _, a0', .nil, .nil, Nat.zero_le _, Nat.zero_le _⟩
        · exact ⟨y1, _, [x3], _, kv4_2 _ _ _ _, a1', .cons q3 .nil, .cons f3 .nil, by omega, (show 1 ≤ 2 by decide)⟩
        · exact ⟨y2, _, [x3, x2], _, kv4_3 _ _ _ _, a2', .cons q3 (.cons q2' .nil), .cons f3 (.cons f2 .nil), by omega, Nat.le_refl _⟩
        · exact ⟨y3, _, [x2], _, kv4_4 _ _ _ _, a3', .cons q2' .nil, .cons f2 .nil, by omega, (show 1 ≤ 2 by decide)⟩
      refine ⟨pd, .ref yo, rfl, by rw [← hval]; exact DGet.k (k := .inr o) hpd2, ?_⟩
      have fX : Fine 2 121 (.tuple [.str "cell", .str t, .tuple [.str "key"], .str "in"]) := ((Fines.cons (Fine.word (w := "cell") (by decide)).k0 (.cons ft.k0 (.cons fine_key (.cons (Fine.word (w := "in") (by decide)).k0 .nil)))).tup).mono (Nat.le_refl _) (by decide)
      have fE : Fine 1 5 (.tuple []) := (Fines.nil (k := 0)).tup
      have FS : Fines (m + 3) (9 + (84 + (5 + (121 + (em m + 0))))) [.str o, .str t, .tuple [], .tuple [.str "cell", .str t, .tuple [.str "key"], .str "in"], x5] := .cons (Fine.word ho).k0 (.cons ft.k0 (.cons (fE.mono (by omega) (Nat.le_refl _)) (.cons (fX.mono (by omega) (Nat.le_refl _)) (.cons f5 .nil))))
      have FA := (FS.append hfs).tup
      have dS : DpAll K H11 [.str o, .str t, .ref z0, .ref z2, v5] [.str o, .str t, .tuple [], .tuple [.str "cell", .str t, .tuple [.str "key"], .str "in"], x5] := .cons (.str _) (.cons (.str _) (.cons q0 (.cons q2 (.cons q5 .nil))))
      refine ⟨z3, yo, _, _, rfl, rfl, .inl (.inl z11), .inl (.inl hyo), List.cons_ne_nil _ _, h1000 (show 5 + vs.length ≤ 1000 by omega), fun e => ?_, fun _ p np => ?_⟩
      · obtain rfl : ds = [] := by
          rw [e] at hds
          cases hds
          rfl
        rw [List.append_nil] at FA
        exact q _ _ _ k11 (D11.mono (by omega)) (FA.mono (by omega) (by omega)) (.tup (.inl (.inl z11)) dS)
      · have s12 := same_upd (o := .tup ([.str o, .str t, .ref z0, .ref z2, v5] ++ vs)) np
        have hfA := FA.flat
        rw [flatD] at hfA
        exact q _ _ _ (k11.trans (Keep.of s12)) ((D11.same s12).mono (by omega)) (FA.mono (by omega) (by omega)) (new_tup (dpAll_append dS hds) hfA np)
end
end L16

namespace L16
open PySem PySem.Spec PyProof.Rows L2 GR
section
variable {P : Program} {w : World} {K : PySem.W.Frag} {mg : Str → Option Value} {base : Heap}
theorem ok_none {k : Nat} {f : Addr} {fd : FuncData} {ps : List Str} {sp : Sp} (h : ∀ vs H Q E, ¬ sp vs H Q E) : FnOk P w K mg base CX0 k f fd ps sp :=
  ⟨fun vs H Q E q => absurd q (h vs H Q E), fun A outer s H args us vs Q E hr he hb hv hs => absurd hs (h vs H Q E)⟩
theorem ok_exprs {f f_law_draw f_law_pick : Addr} {fd fd_law_draw fd_law_pick : FuncData} {k : Nat} (F : Fun K "_law_expression" "_law_expression" s_law_expression f fd) (G_law_draw : FnOk P w K mg base CX0 k f_law_draw fd_law_draw ["_law_deck_here", "_law_most"] sp_draw)
    (g_law_draw : mg "_law_draw" = some (.ref f_law_draw)) (K_law_draw : PySem.W.keepIn K (.ref f_law_draw) = true) (b_law_draw : Binds K fd_law_draw ["_law_deck_here", "_law_most"] [])
    (G_law_pick : FnOk P w K mg base CX0 k f_law_pick fd_law_pick ["_law_deck_here", "_law_some"] (sp_pick K))
    (g_law_pick : mg "_law_pick" = some (.ref f_law_pick)) (K_law_pick : PySem.W.keepIn K (.ref f_law_pick) = true) (b_law_pick : Binds K fd_law_pick ["_law_deck_here", "_law_some"] [])
    (g : mg "_law_expression" = some (.ref f)) (Kf : PySem.W.keepIn K (.ref f) = true) (b : Binds K fd ps_ex [])
    (mint : mg "int" = none) (mmax : mg "max" = none) : ∀ n : Nat, FnOk P w K mg base CX0 (k + n + 1) f fd ps_ex (sp_expr K n)
  | 0 => ok_expr_step (k := k) F G_law_draw g_law_draw K_law_draw b_law_draw G_law_pick g_law_pick K_law_pick b_law_pick (ok_none fun vs H Q E ⟨m, h, _⟩ => by omega) g Kf b mint mmax
  | n + 1 => by
    have ih := ok_exprs F G_law_draw g_law_draw K_law_draw b_law_draw G_law_pick g_law_pick K_law_pick b_law_pick g Kf b mint mmax n
    refine ok_expr_step (k := k + n + 1) F (G_law_draw.mono (by omega)) g_law_draw K_law_draw b_law_draw (G_law_pick.mono (by omega)) g_law_pick K_law_pick b_law_pick (ih.imp ?_) g Kf b mint mmax
    rintro vs H Q E ⟨m, hm, h⟩
    obtain rfl : n = m := by omega
    exact h
/-! ### statements -/
/-- a statement: a tuple that begins with a word; behind let stands a name -/
def SV (K : PySem.W.Frag) (H : Hp) (v : V) (x : PyData) : Prop := ∃ (p : Addr) (w : Str) (v1 : V) (vs : List V), v = .ref p ∧ H p = some (.tup (.str w :: v1 :: vs)) ∧ (w = "let" → ∃ z, v1 = .str z ∧ Nm z) ∧ Dp K H v x ∧ Fine 8 12000 x
theorem SV.keep {K : PySem.W.Frag} {H H' : Hp} {v : V} {x : PyData} (h : SV K H v x) (k : KeepT H H') : SV K H' v x := by
  obtain ⟨p, w, v1, vs, rfl, h1, h2, h3, h4⟩ := h
  exact ⟨p, w, v1, vs, rfl, k.1 _ _ h1, h2, dp_keep k _ _ h4.flat h3, h4⟩
abbrev s_law_statement : Stmt := topS 13
abbrev N_st : List Str := ["_law_deck_here", "_law_world_here", "_law_scope", "_law_deep", "_law_way", "_law_table", "_law_column", "_law_left", "_law_one", "_law_inner", "_law_name"]
abbrev ps_st : List Str := ["_law_deck_here", "_law_world_here", "_law_scope", "_law_deep"]
theorem sc_law_statement : FnScope N_st ps_st (defScope s_law_statement) := ⟨rfl, rfl, rfl, by decide +kernel, rfl, by decide +kernel, by decide +kernel⟩
def sp_stmt (K : PySem.W.Frag) : Sp := fun vs H Q _ => ∃ (d c u tl cl nl sc : Addr) (N : Int) (ts cs ns scope : List Str), vs = [.ref d, .ref u, .ref sc, .int 3] ∧ Deck H d c N ∧ N < 2 ^ 53 ∧ Wd H d c u tl cl nl ts cs ns ∧ Scp H d c sc scope ∧
  ∀ H' v x, Keep d c H H' → Deck H' d c (N + 20000) → SV K H' v x → Q v H'
theorem nm_ok {z : Str} (h : Nm z) : PyData.strOk z = true := so_iff.mpr fun c hc => Nat.lt_of_le_of_lt (h.2.2.1 c hc).2 (by decide)
theorem dp_strs {K : PySem.W.Frag} {H : Hp} : ∀ zs : List Str, DpAll K H (zs.map V.str) (zs.map PyData.str)
  | [] => .nil
  | z :: zs => .cons (.str z) (dp_strs zs)
theorem shaped_strs {zs : List Str} (h : ∀ z, z ∈ zs → Nm z) : SeqAt.shaped (.list (zs.map PyData.str)) = true := by
  have h1 : PyData.canLayAll0 (zs.map PyData.str) = true := by
    induction zs with
    | nil => simp only [List.map_nil, PyData.canLayAll0]
    | cons z zs ih => simp only [List.map_cons, PyData.canLayAll0, PyData.canLay0, nm_ok (h z List.mem_cons_self), ih fun y hy => h y (List.mem_cons_of_mem _ hy), Bool.and_self]
  have h2 : PyData.depthAll (zs.map PyData.str) ≤ 1 := by
    clear h h1
    induction zs with
    | nil => simp only [List.map_nil, PyData.depthAll]; omega
    | cons z zs ih =>
      simp only [List.map_cons, PyData.depthAll, PyData.depth]
      omega
  unfold SeqAt.shaped
  rw [Bool.and_eq_true]
  refine ⟨by simp only [PyData.canLay0, h1], decide_eq_true ?_⟩
  simp only [PyData.depth]
  omega
theorem neq_nilS : ∀ zs : List Str, (!PyData.eqv (.list (zs.map PyData.str)) (.list [])) = !zs.isEmpty
  | [] => by simp only [List.map_nil, PyData.eqv, PyData.eqvAll, List.isEmpty_nil]
  | n :: ns => by simp only [List.map_cons, PyData.eqv, PyData.eqvAll, List.isEmpty_cons]
theorem flat_map_str (zs : List Str) : (zs.map V.str).all flatV = true := by
  rw [List.all_eq_true]
  intro v hv
  obtain ⟨z, _, rfl⟩ := List.mem_map.mp hv
  rfl
theorem ok_stmt {f f_law_draw f_law_pick f_ex : Addr} {fd fd_law_draw fd_law_pick d_ex : FuncData} {k : Nat} (F : Fun K "_law_statement" "_law_statement" s_law_statement f fd) (G_law_draw : FnOk P w K mg base CX0 k f_law_draw fd_law_draw ["_law_deck_here", "_law_most"] sp_draw)
    (g_law_draw : mg "_law_draw" = some (.ref f_law_draw)) (K_law_draw : PySem.W.keepIn K (.ref f_law_draw) = true) (b_law_draw : Binds K fd_law_draw ["_law_deck_here", "_law_most"] [])
    (G_law_pick : FnOk P w K mg base CX0 k f_law_pick fd_law_pick ["_law_deck_here", "_law_some"] (sp_pick K))
    (g_law_pick : mg "_law_pick" = some (.ref f_law_pick)) (K_law_pick : PySem.W.keepIn K (.ref f_law_pick) = true) (b_law_pick : Binds K fd_law_pick ["_law_deck_here", "_law_some"] [])
    (G : FnOk P w K mg base CX0 k f_ex d_ex ps_ex (sp_expr K 3)) (g : mg "_law_expression" = some (.ref f_ex)) (Kf : PySem.W.keepIn K (.ref f_ex) = true) (b : Binds K d_ex ps_ex []) : FnOk P w K mg base CX0 (k + 1) f fd ps_st (sp_stmt K) := by
  have nd := sc_law_statement.nd
  refine F.ok sc_law_statement (fun vs H Q E h => ?_) (fun cdv A outer s H vs Q E hr h => ?_)
  · obtain ⟨d, c, u, tl, cl, nl, sc, N, ts, cs, ns, scope, rfl, _⟩ := h
    rfl
  obtain ⟨d, c, u, tl, cl, nl, sc, N, ts, cs, ns, scope, rfl, D, hN, W, S, q⟩ := h
  have hu1 : (A.deeper (envOfC "_law_statement" (defScope s_law_statement) s.heap.objs.size f cdv)).units + 1 < cLine := by
    have := hr.units
    omega
  refine ⟨_, (pss_cons (ps_set (i := 4) nd rfl (.inl rfl) (pe_call G_law_draw hr (by rfl) g_law_draw K_law_draw b_law_draw .nil pass0 (pa_cons (pv 0) (pa_cons pe_int pa_nil))))
      (pss_cons (ps_par (i := 5) (j := 6) rfl nd rfl rfl (by decide) rfl rfl (pa_cons (pe_call G_law_pick hr (by rfl) g_law_pick K_law_pick b_law_pick .nil pass0 (pa_cons (pv 0) (pa_cons (pe_dget hu1 (pv 1) pe_str noSl_str) pa_nil))) (pa_cons (pe_call G_law_pick hr (by rfl) g_law_pick K_law_pick b_law_pick .nil pass0 (pa_cons (pv 0) (pa_cons (pe_dget hu1 (pv 1) pe_str noSl_str) pa_nil))) pa_nil)) (by rfl))
      (pss_cons (ps_setLc (i := 7) (own := [("_law_name", 10)]) (tt := tTest (tOp (rIn K true) (tVar 10) (tVar 2))) (te := tVar 10) rfl nd rfl rfl (sw_true rfl rfl rfl (by decide +kernel)) (pi_list (pe_dget hu1 (pv 1) pe_str noSl_str)) (blkOk_by (N := N_st) (sc := defScope s_law_statement) (by decide +kernel)) (fun _ _ _ _ _ => (pg_name (i := 10) nd rfl (Or.inl rfl))) (fun _ _ _ _ _ => (pts_one (pt_cmpR op_notIn_seq (pv 10) (pv 2) (by rfl)))) (fun _ _ _ _ _ => (pv 10)))
      (pss_cons (ps_set (i := 8) nd rfl (.inl rfl) (pe_call G hr (by rfl) g Kf b .nil pass0 (pa_cons (pv 0) (pa_cons (pv 1) (pa_cons (pv 3) (pa_cons (pv 2) (pa_cons pe_int pa_nil)))))))
      (Evl.pss_cut (ps_if (PW.pt (pw_and (pt_cmpR op_lt (pv 4) pe_int (nomark _)) (pw_and1 (pt_cmpR (op_neD hr.units) (pv 7) (pe_lst pa_nil) (nomark _)))))
      (pss_one (ps_ret (pe_tup (pa_cons pe_str (pa_cons (pe_ix ix_list (pv 7) pe_int (fun _ _ => rfl)) (pa_cons (pv 8) pa_nil))))))
      pss_nil)
      (pss_cons (ps_if (pt_cmpR op_lt (pv 4) pe_int (nomark _))
      (pss_one (ps_ret (pe_ix ix_list (pe_lst (pa_cons (pe_tup (pa_cons pe_str (pa_cons (pe_tup (pa_cons pe_str (pa_cons (pe_tup (pa_cons pe_str (pa_cons (pe_op op_sub pe_int pe_int) pa_nil))) (pa_cons (pv 8) pa_nil)))) pa_nil))) (pa_cons (pe_tup (pa_cons pe_str (pa_cons (pv 8) pa_nil))) pa_nil))) (pe_op op_mod (pv 4) pe_int) (fun _ _ => rfl))))
      pss_nil)
      (pss_cons (ps_if (pt_cmpR op_lt (pv 4) pe_int (nomark _))
      (pss_cons (ps_set (i := 9) nd rfl (.inl rfl) (pe_call G hr (by rfl) g Kf b .nil pass0 (pa_cons (pv 0) (pa_cons (pv 1) (pa_cons (pv 3) (pa_cons (pv 2) (pa_cons pe_int pa_nil)))))))
        (pss_one (ps_ret (pe_tup (pa_cons pe_str (pa_cons (pv 5) (pa_cons (pv 9) (pa_cons (pv 6) (pa_cons (pe_call G hr (by rfl) g Kf b .nil pass0 (pa_cons (pv 0) (pa_cons (pv 1) (pa_cons (pv 3) (pa_cons (pv 2) (pa_cons pe_int pa_nil)))))) pa_nil)))))))))
      pss_nil)
      (pss_cons (ps_if (pt_cmpR op_lt (pv 4) pe_int (nomark _))
      (pss_one (ps_ret (pe_tup (pa_cons pe_str (pa_cons (pv 5) (pa_cons (pe_call G hr (by rfl) g Kf b .nil pass0 (pa_cons (pv 0) (pa_cons (pv 1) (pa_cons pe_int (pa_cons (pv 2) (pa_cons pe_int pa_nil)))))) (pa_cons pe_str (pa_cons (pe_tup (pa_cons pe_str (pa_cons (pe_call G_law_draw hr (by rfl) g_law_draw K_law_draw b_law_draw .nil pass0 (pa_cons (pv 0) (pa_cons pe_int pa_nil))) pa_nil))) pa_nil))))))))
      pss_nil)
      (pss_one (ps_ret (pe_tup (pa_cons pe_str (pa_cons (pv 5) (pa_cons (pe_call G hr (by rfl) g Kf b .nil pass0 (pa_cons (pv 0) (pa_cons (pv 1) (pa_cons (pe_op op_sub (pv 3) pe_int) (pa_cons (pv 2) (pa_cons pe_int pa_nil)))))) (pa_cons (pv 6) (pa_cons (pv 8) pa_nil)))))))))))))))), ?_⟩
  have hdx : dx 3 = 3450 + 0 := by decide
  have hem : em 3 = 5820 := by decide
  refine ⟨.ref d, rfl, d, c, N, 12, rfl, D, by omega, by decide, by decide, fun H1 way k1 D1 w0 w1 => ?_⟩
  have W1 := W.keep k1
  refine ⟨.ref d, rfl, .ref u, rfl, u, .ref tl, rfl, ?_, .inl ⟨d, c, tl, _, _, rfl, D1, by omega, .inl (.inl W1.ht), ?_, ?_, W1.t0.1, W1.t0.2, fun H2 vt k2 D2 hvt => ?_⟩⟩
  · rw [← wD_t tl cl nl]
    exact DGet.k (k := .inr "tables") W1.dct
  · intro e
    have := congrArg List.length e
    rw [List.length_map, W.lt] at this
    cases this
  · rw [List.length_map, W.lt]
    decide
  obtain ⟨t, ht, rfl⟩ := List.mem_map.mp hvt
  have ft := Fine.str (W.at' t ht)
  have k02 := k1.trans k2
  have W2 := W.keep k02
  refine ⟨.ref d, rfl, .ref u, rfl, u, .ref cl, rfl, ?_, .inl ⟨d, c, cl, _, _, rfl, D2, by omega, .inl (.inl W2.hc), ?_, ?_, W2.c0.1, W2.c0.2, fun H3 vc k3 D3 hvc => ?_⟩⟩
  · rw [← wD_c tl cl nl]
    exact DGet.k (k := .inr "columns") W2.dct
  · intro e
    have := congrArg List.length e
    rw [List.length_map, W.lc] at this
    cases this
  · rw [List.length_map, W.lc]
    decide
  obtain ⟨z, hz, rfl⟩ := List.mem_map.mp hvc
  have fz := Fine.str (W.ac z hz)
  have k03 := k02.trans k3
  have W3 := W.keep k03
  have S3 := S.keep k03
  refine ⟨_, _, rfl, ?_⟩
  -- what is left
  refine ⟨.ref u, rfl, u, .ref nl, rfl, ?_, nl, rfl, ⟨_, .inl (.inl W3.hn)⟩, fun B nB => ?_⟩
  · rw [← wD_n tl cl nl]
    exact DGet.k (k := .inr "names") W3.dct
  have hBd := D3.new nB
  have hBn : nl ≠ B := ne_of_none W3.hn nB
  have hBs : sc ≠ B := ne_of_none S3.at' nB
  refine lc_list (xs := ns.map V.str) (fun i H' => ∃ zs : List Str, H' B = some (.lst (zs.map V.str)) ∧ zs.length ≤ i ∧ (∀ y, y ∈ zs → Nm y) ∧ ∀ b ob, b ≠ B → H3 b = some ob → H' b = some ob) ?_ ?_ ?_ ?_
  · exact ⟨[], upd_same, Nat.le_refl _, fun v hv => (nomatch hv), fun b ob nb e => by rw [upd_ne nb]; exact e⟩
  · rintro i H' _ ⟨_, _, _, _, kk⟩
    exact .inl (.inl (kk _ _ hBn W3.hn))
  · rintro i x H4 hx ⟨zs, hB, hl4, hg, kk⟩
    rw [List.getElem?_map] at hx
    obtain ⟨y, hy, rfl⟩ := Option.map_eq_some_iff.mp hx
    have hi : i < ns.length := (List.getElem?_eq_some_iff.mp hy).1
    have hln := W.ln
    refine ⟨rfl, .str y, rfl, .ref sc, rfl, sc, _, rfl, .inl (.inl (.inl (kk _ _ hBs S3.at'))), rfl, flat_map_str _, _, rfl, ?_⟩
    refine ite2 (fun e => ?_) (fun e => ?_)
    · refine ⟨.str y, rfl, _, hB, small1000 (by rw [List.length_map]; omega), zs ++ [y], by rw [List.map_append]; exact upd_same, by rw [List.length_append]; exact Nat.succ_le_succ hl4, fun v hv => ?_, fun b ob nb e => by rw [upd_ne nb]; exact kk b ob nb e⟩
      rcases List.mem_append.mp hv with h | h
      · exact hg v h
      · rw [List.mem_singleton.mp h]
        exact W.an y (List.mem_of_getElem? hy)
    · exact ⟨zs, hB, by omega, hg, kk⟩
  · rintro H4 ⟨zs, hB, hl4, hg, kk⟩
    rw [List.length_map, W.ln] at hl4
    have s34 : Same H3 H4 := fun b ob e => kk b ob (ne_of_none e nB) e
    have k04 := k03.trans (Keep.of s34)
    have D4 := D3.same s34
    have ew : ∀ z : Str, Fine 6 9 (.str z) → Fine 6 9 (.str z) := fun z h => h
    refine ⟨.ref d, rfl, .ref u, rfl, .int 3, rfl, .ref sc, rfl, d, c, u, tl, cl, nl, sc, _, 3, 0, ts, cs, ns, scope, rfl, D4, by omega, W.keep k04, S.keep k04, by decide, by decide, by decide, fun H5 v1 x1 k5 D5 f1 p1 => ?_⟩
    rw [hem] at f1
    have k05 := k04.trans k5
    have hB5 := k5 _ _ hBd.1 hBd.2 hB
    have D5' := D5.mono (show N + 1 + 1 + 1 + dx 3 ≤ N + 3500 by omega)
    -- a let
    refine ⟨fun σ' H' => σ' = [some (.ref d), some (.ref u), some (.ref sc), some (.int 3), some (.int way), some (.str t), some (.str z), some (.ref B), some v1, none, none] ∧ Same H5 H', ?_, ?_⟩
    · refine ⟨.int way, rfl, _, _, rfl, rfl, _, rfl, ite2 (fun e1 => ⟨.ref B, rfl, Nat.zero_le _, fun l nl' => ⟨_, _, .lst (.inl (.inl (same_upd nl' _ _ hB5))) (dp_strs zs), .lst (.inl (.inl upd_same)) .nil, shaped_strs hg, rfl, ?_⟩⟩) (fun e1 => ?_)⟩
      · rw [neq_nilS]
        have sl := same_upd (o := .lst []) nl'
        refine ⟨_, rfl, ite2 (fun e2 => ?_) (fun e2 => ⟨rfl, sl⟩)⟩
        obtain ⟨y, ys, rfl⟩ : ∃ y ys, zs = y :: ys := by
          cases zs with
          | nil => exact absurd e2 (by decide)
          | cons y ys => exact ⟨y, ys, rfl⟩
        have fy := Fine.str (hg y List.mem_cons_self)
        refine ⟨.ref B, rfl, B, _, 0, .str y, rfl, rfl, .inl (.inl (sl _ _ hB5)), at0, v1, rfl, h1000 (show 3 ≤ 1000 by decide), fun p np => ?_⟩
        have s6 := same_upd (o := .tup [.str "let", .str y, v1]) np
        have F := (Fines.cons (Fine.word (w := "let") (by decide)).k0 (.cons fy.k0 (.cons f1 .nil))).tup
        exact q _ _ _ (k05.trans (Keep.of (sl.trans s6))) ((D5'.same (sl.trans s6)).mono (by omega)) ⟨p, "let", .str y, [v1], rfl, upd_same, fun _ => ⟨y, rfl, hg y List.mem_cons_self⟩, new_tup (.cons (.str _) (.cons (.str _) (.cons (dp_keep (KeepT.of sl) _ _ f1.flat p1) .nil))) (by simp only [flatDs, flatD, f1.flat, Bool.and_self]) np, F.mono (by omega) (by omega)⟩
      · exact ⟨rfl, fun _ _ e => e⟩
    rintro σ' H6 ⟨rfl, s56⟩
    have k06 := k05.trans (Keep.of s56)
    have D6 := D5'.same s56
    have p16 := dp_keep (KeepT.of s56) _ _ f1.flat p1
    have W6 := W.keep k06
    have S6 := S.keep k06
    clear hB5 hB kk
    -- a need, a tell
    refine ⟨.int way, rfl, _, _, rfl, rfl, _, rfl, ite2 (fun e1 => ?_) (fun e1 => ?_)⟩
    · refine ⟨_, _, rfl, rfl, h1000 (show 2 ≤ 1000 by decide), fun a1 m1 => ⟨v1, rfl, h1000 (show 3 ≤ 1000 by decide), fun a2 m2 => ⟨h1000 (show 2 ≤ 1000 by decide), fun a3 m3 => ⟨v1, rfl, h1000 (show 2 ≤ 1000 by decide), fun a4 m4 => ⟨h1000 (show 2 ≤ 1000 by decide), fun l ml => ?_⟩⟩⟩⟩⟩
      dsimp only
      have t1 := same_upd (o := .tup [.str "int", .int (0 - 3)]) m1
      have t2 := same_upd (o := .tup [.str "<", .ref a1, v1]) m2
      have t3 := same_upd (o := .tup [.str "need", .ref a2]) m3
      have t4 := same_upd (o := .tup [.str "tell", v1]) m4
      have tl5 := same_upd (o := .lst [.ref a3, .ref a4]) ml
      have b1 := new_tup (K := K) (.cons (.str "int") (.cons (.int (0 - 3)) .nil)) rfl m1
      have b2 := new_tup (K := K) (.cons (.str "<") (.cons b1 (.cons (dp_keep (KeepT.of t1) _ _ f1.flat p16) .nil))) (by simp only [flatDs, flatD, f1.flat, Bool.and_self]) m2
      have b3 := new_tup (K := K) (.cons (.str "need") (.cons b2 .nil)) (by simp only [flatDs, flatD, f1.flat, Bool.and_self]) m3
      have b4 := new_tup (K := K) (.cons (.str "tell") (.cons (dp_keep (KeepT.of (t1.trans (t2.trans t3))) _ _ f1.flat p16) .nil)) (by simp only [flatDs, flatD, f1.flat, Bool.and_self]) m4
      have fi : Fine 1 36 (.tuple [.str "int", .int (0 - 3)]) := (tup2 (by decide) (Fine.int (by decide) (by decide)))
      have F3 := tup2 (w := "need") (by decide) (((Fines.cons (Fine.word (w := "<") (by decide)).k0 (.cons (fi.mono (show 1 ≤ 6 by decide) (Nat.le_refl _)) (.cons f1 .nil))).tup))
      have F4 := tup2 (w := "tell") (by decide) f1
      have hs3 : SV K _ (.ref a3) (.tuple [.str "need", .tuple [.str "<", .tuple [.str "int", .int (0 - 3)], x1]]) := ⟨a3, "need", .ref a2, [], rfl, upd_same, fun e => (nomatch (show ¬ (("need" : Str) = "let") by decide) e), b3, F3.mono (by decide) (by decide)⟩
      have hs4 : SV K _ (.ref a4) (.tuple [.str "tell", x1]) := ⟨a4, "tell", v1, [], rfl, upd_same, fun e => (nomatch (show ¬ (("tell" : Str) = "let") by decide) e), b4, F4.mono (by decide) (by decide)⟩
      have h3 := (hs3.keep (KeepT.of t4)).keep (KeepT.of tl5)
      have h4 := hs4.keep (KeepT.of tl5)
      have t15 := t1.trans (t2.trans (t3.trans (t4.trans tl5)))
      have hl : upd (upd (upd (upd (upd H6 a1 (.tup [.str "int", .int (0 - 3)])) a2 (.tup [.str "<", .ref a1, v1])) a3 (.tup [.str "need", .ref a2])) a4 (.tup [.str "tell", v1])) l (.lst [.ref a3, .ref a4]) l = some (.lst [.ref a3, .ref a4]) := upd_same
      clear t1 t2 t3 t4 tl5 b1 b2 b3 b4 hs3 hs4 m1 m2 m3 m4 ml
      revert h3 h4 t15 hl
      generalize upd (upd (upd (upd (upd H6 a1 (.tup [.str "int", .int (0 - 3)])) a2 (.tup [.str "<", .ref a1, v1])) a3 (.tup [.str "need", .ref a2])) a4 (.tup [.str "tell", v1])) l (.lst [.ref a3, .ref a4]) = H7
      intro h3 h4 t15 hl
      have k07 := k06.trans (Keep.of t15)
      have D7 := (D6.same t15).mono (show N + 3500 ≤ N + 20000 by omega)
      have hw2 : way % 2 = 0 ∨ way % 2 = 1 := by omega
      refine ⟨.int way, rfl, _, _, rfl, rfl, (show (0 : Int) < 2 by decide), ?_⟩
      dsimp only
      rcases hw2 with e2 | e2
      · rw [e2]
        exact ⟨l, _, 0, .ref a3, rfl, rfl, .inl (.inl hl), at0, q _ _ _ k07 D7 h3⟩
      · rw [e2]
        exact ⟨l, _, 1, .ref a4, rfl, rfl, .inl (.inl hl), at1, q _ _ _ k07 D7 h4⟩
    -- an each
    refine ⟨.int way, rfl, _, _, rfl, rfl, _, rfl, ite2 (fun e2 => ?_) (fun e2 => ?_)⟩
    · refine ⟨.ref d, rfl, .ref u, rfl, .int 3, rfl, .ref sc, rfl, d, c, u, tl, cl, nl, sc, _, 3, 2, ts, cs, ns, scope, rfl, D6, by omega, W6, S6, by decide, by decide, by decide, fun H7 v2 x2 k7 D7 f2 p2 => ?_⟩
      have k07 := k06.trans k7
      rw [hem] at f2
      refine ⟨.str t, rfl, v2, rfl, .str z, rfl, .ref d, rfl, .ref u, rfl, .int 3, rfl, .ref sc, rfl, d, c, u, tl, cl, nl, sc, _, 3, 2, ts, cs, ns, scope, rfl, D7, by omega, W.keep k07, S.keep k07, by decide, by decide, by decide, fun H8 v3 x3 k8 D8 f3 p3 => ⟨h1000 (show 5 ≤ 1000 by decide), fun p np => ?_⟩⟩
      rw [hem] at f3
      have s9 := same_upd (o := .tup [.str "each", .str t, v2, .str z, v3]) np
      have F := (Fines.cons (Fine.word (w := "each") (by decide)).k0 (.cons ft.k0 (.cons f2 (.cons fz.k0 (.cons f3 .nil))))).tup
      exact q _ _ _ ((k07.trans k8).trans (Keep.of s9)) ((D8.same s9).mono (by omega)) ⟨p, "each", .str t, [v2, .str z, v3], rfl, upd_same, fun e => (nomatch (show ¬ (("each" : Str) = "let") by decide) e), new_tup (.cons (.str _) (.cons (.str _) (.cons (dp_keep (k8.t D7) _ _ f2.flat p2) (.cons (.str _) (.cons p3 .nil))))) (by simp only [flatDs, flatD, f2.flat, f3.flat, Bool.and_self]) np, F.mono (by omega) (by omega)⟩
    -- a put to in
    refine ⟨.int way, rfl, _, _, rfl, rfl, _, rfl, ite2 (fun e3 => ?_) (fun e3 => ?_)⟩
    · refine ⟨.str t, rfl, .ref d, rfl, .ref u, rfl, .ref sc, rfl, d, c, u, tl, cl, nl, sc, _, 0, 0, ts, cs, ns, scope, rfl, D6, by omega, W6, S6, by decide, by decide, by decide, fun H7 v2 x2 k7 D7 f2 p2 => ?_⟩
      have k07 := k06.trans k7
      rw [hem] at f2
      refine ⟨.ref d, rfl, d, c, _, 4, rfl, D7, by omega, by decide, by decide, fun H8 r k8 D8 r0 r1 => ⟨h1000 (show 2 ≤ 1000 by decide), fun p1 np1 => ⟨h1000 (show 5 ≤ 1000 by decide), fun p np => ?_⟩⟩⟩
      have s9 := same_upd (o := .tup [.str "int", .int r]) np1
      have s10 := same_upd (o := .tup [.str "put", .str t, v2, .str "in", .ref p1]) np
      have bi := new_tup (K := K) (.cons (.str "int") (.cons (.int r) .nil)) rfl np1
      have fi : Fine 1 36 (.tuple [.str "int", .int r]) := tup2 (by decide) (Fine.int (by omega) (by omega))
      have F := (Fines.cons (Fine.word (w := "put") (by decide)).k0 (.cons ft.k0 (.cons f2 (.cons (Fine.word (w := "in") (by decide)).k0 (.cons (fi.mono (show 1 ≤ 6 by decide) (Nat.le_refl _)) .nil))))).tup
      exact q _ _ _ ((k07.trans k8).trans (Keep.of (s9.trans s10))) ((D8.same (s9.trans s10)).mono (by omega)) ⟨p, "put", .str t, [v2, .str "in", .ref p1], rfl, upd_same, fun e => (nomatch (show ¬ (("put" : Str) = "let") by decide) e), new_tup (.cons (.str _) (.cons (.str _) (.cons (dp_keep ((k8.t D7).trans (KeepT.of s9)) _ _ f2.flat p2) (.cons (.str _) (.cons bi .nil))))) (by simp only [flatDs, flatD, f2.flat, Bool.and_self]) np, F.mono (by omega) (by omega)⟩
    -- a put
    refine ⟨.str t, rfl, .ref d, rfl, .ref u, rfl, .int 3, rfl, 3, 1, rfl, rfl, .ref sc, rfl, d, c, u, tl, cl, nl, sc, _, _, 0, ts, cs, ns, scope, rfl, D6, by omega, W6, S6, by decide, by decide, by decide, fun H7 v2 x2 k7 D7 f2 p2 => ?_⟩
    rw [hem] at f2
    refine ⟨.str z, rfl, v1, rfl, h1000 (show 5 ≤ 1000 by decide), fun p np => ?_⟩
    have s9 := same_upd (o := .tup [.str "put", .str t, v2, .str z, v1]) np
    have F := (Fines.cons (Fine.word (w := "put") (by decide)).k0 (.cons ft.k0 (.cons f2 (.cons fz.k0 (.cons f1 .nil))))).tup
    exact q _ _ _ ((k06.trans k7).trans (Keep.of s9)) ((D7.same s9).mono (by omega)) ⟨p, "put", .str t, [v2, .str z, v1], rfl, upd_same, fun e => (nomatch (show ¬ (("put" : Str) = "let") by decide) e), new_tup (.cons (.str _) (.cons (.str _) (.cons p2 (.cons (.str _) (.cons (dp_keep (k7.t D6) _ _ f1.flat p16) .nil))))) (by simp only [flatDs, flatD, f1.flat, f2.flat, Bool.and_self]) np, F.mono (by omega) (by omega)⟩
end
end L16

namespace L16
open PySem PySem.Spec PyProof.Rows L2 GR
abbrev SVs (K : PySem.W.Frag) (H : Hp) : List V → List PyData → Prop := Paired (SV K H)
theorem svs_keep {K : PySem.W.Frag} {H H' : Hp} (k : KeepT H H') : ∀ {vs : List V} {ds : List PyData}, SVs K H vs ds → SVs K H' vs ds
  | _, _, .nil => .nil
  | _, _, .cons h t => .cons (h.keep k) (svs_keep k t)
theorem svs_append {K : PySem.W.Frag} {H : Hp} : ∀ {vs us : List V} {ds es : List PyData}, SVs K H vs ds → SVs K H us es → SVs K H (vs ++ us) (ds ++ es)
  | _, _, _, _, .nil, h => h
  | _, _, _, _, .cons h t, g => .cons h (svs_append t g)
theorem svs_len {K : PySem.W.Frag} {H : Hp} {vs : List V} {ds : List PyData} (h : SVs K H vs ds) : vs.length = ds.length := Paired.length h
section
variable {P : Program} {w : World} {K : PySem.W.Frag} {mg : Str → Option Value} {base : Heap}
abbrev s_law_transaction : Stmt := topS 14
abbrev N_tr : List Str := ["_law_deck_here", "_law_world_here", "_law_most", "_law_deep", "_law_scope", "_law_found", "_law_k"]
abbrev ps_tr : List Str := ["_law_deck_here", "_law_world_here", "_law_most", "_law_deep"]
theorem sc_law_transaction : FnScope N_tr ps_tr (defScope s_law_transaction) := ⟨rfl, rfl, rfl, by decide +kernel, rfl, by decide +kernel, by decide +kernel⟩
def sp_tran (K : PySem.W.Frag) : Sp := fun vs H Q _ => ∃ (d c u tl cl nl : Addr) (N : Int) (ts cs ns : List Str), vs = [.ref d, .ref u, .int 6, .int 3] ∧ Deck H d c N ∧ N < 2 ^ 52 ∧ Wd H d c u tl cl nl ts cs ns ∧
  ∀ H' p us ds, Keep d c H H' → Deck H' d c (N + 200000) → H' p = some (.tup us) → SVs K H' us ds → us.length ≤ 6 → Q (.ref p) H'
theorem ok_tran {f f_law_draw f_st : Addr} {fd fd_law_draw d_st : FuncData} {k : Nat} (F : Fun K "_law_transaction" "_law_transaction" s_law_transaction f fd) (G_law_draw : FnOk P w K mg base CX0 k f_law_draw fd_law_draw ["_law_deck_here", "_law_most"] sp_draw)
    (g_law_draw : mg "_law_draw" = some (.ref f_law_draw)) (K_law_draw : PySem.W.keepIn K (.ref f_law_draw) = true) (b_law_draw : Binds K fd_law_draw ["_law_deck_here", "_law_most"] [])
    (G : FnOk P w K mg base CX0 k f_st d_st ps_st (sp_stmt K)) (g : mg "_law_statement" = some (.ref f_st)) (Kf : PySem.W.keepIn K (.ref f_st) = true) (b : Binds K d_st ps_st []) (mrange : mg "range" = none) (mint : mg "int" = none) (mtuple : mg "tuple" = none) : FnOk P w K mg base CX0 (k + 1) f fd ps_tr (sp_tran K) := by
  have nd := sc_law_transaction.nd
  refine F.ok sc_law_transaction (fun vs H Q E h => ?_) (fun cdv A outer s H vs Q E hr h => ?_)
  · obtain ⟨d, c, u, tl, cl, nl, N, ts, cs, ns, rfl, _⟩ := h
    rfl
  obtain ⟨d, c, u, tl, cl, nl, N, ts, cs, ns, rfl, D, hN, W, q⟩ := h
  refine ⟨_, (pss_cons (ps_set (i := 4) nd rfl (.inl rfl) (pe_lst pa_nil))
      (pss_cons (ps_set (i := 5) nd rfl (.inl rfl) (pe_lst pa_nil))
      (pss_cons (ps_for PassesOwn.never rfl (pi_range1 rfl mrange (pa_cons (pe_call G_law_draw hr (by rfl) g_law_draw K_law_draw b_law_draw .nil pass0 (pa_cons (pv 0) (pa_cons (pe_op op_add (pv 2) pe_int) pa_nil))) pa_nil)) (pg_name (i := 6) nd rfl (Or.inl rfl))
      (pss_cons (ps_expr (pe_bm PySem.F.plainAttrs_list PySem.F.slot_list_append PySem.F.type_list_append mt_append (pv 5) (pa_cons (pe_call G hr (by rfl) g Kf b .nil pass0 (pa_cons (pv 0) (pa_cons (pv 1) (pa_cons (pv 4) (pa_cons (pv 3) pa_nil))))) pa_nil)))
        (pss_one (ps_set (i := 4) nd rfl (.inl rfl) (pe_op op_cat (pv 4) (pe_op op_rep (pe_lst (pa_cons (pe_ix ix_tup (pe_ix ix_list (pv 5) (pe_un un_neg pe_int) (fun _ _ => rfl)) pe_int (fun _ _ => rfl)) pa_nil)) (pe_callTy call_int1 (by rfl) mint boot_int (pa_cons (pe_cmpR op_eq (pe_ix ix_tup (pe_ix ix_list (pv 5) (pe_un un_neg pe_int) (fun _ _ => rfl)) pe_int (fun _ _ => rfl)) pe_str (nomark _)) pa_nil))))))))
      (pss_one (ps_ret (pe_callTy call_tuple_of (by rfl) mtuple boot_tuple (pa_cons (pv 5) pa_nil))))))), ?_⟩
  refine ⟨Nat.zero_le _, fun sc nsc => ⟨Nat.zero_le _, fun fo nfo => ?_⟩⟩
  have s1 := same_upd (o := .lst []) nsc
  have s2 := same_upd (o := .lst []) nfo
  have hsc := D.new nsc
  have hfo := (D.same s1).new nfo
  have h1 := s2 _ _ (show upd H sc (.lst []) sc = _ from upd_same)
  have h2 : upd (upd H sc (.lst [])) fo (.lst []) fo = some (.lst []) := upd_same
  have nfoH : H fo = none := s1.free nfo
  have hsf : sc ≠ fo := ne_of_none (show upd H sc (.lst []) sc = some (.lst []) from upd_same) nfo
  have s12 := s1.trans s2
  revert h1 h2 s12
  clear s1 s2
  generalize upd (upd H sc (.lst [])) fo (.lst []) = H1
  intro h1 h2 s12
  have D1 := D.same s12
  refine ⟨.ref d, rfl, .int 6, rfl, 6, 1, rfl, rfl, d, c, N, 6 + 1, rfl, D1, by omega, by decide, by decide, fun H2 r k2 D2 r0 r1 => ?_⟩
  obtain ⟨m, rfl⟩ := Int.eq_ofNat_of_zero_le r0
  refine ⟨(m : Int), rfl, by omega, by omega, ?_⟩
  rw [show ((m : Int)).toNat = m by omega]
  refine for_range (n := m) (fun i σ H' => ∃ (sc : Addr) (y6 : Option V) (us : List V) (ds : List PyData) (scope : List Str), σ = [some (.ref d), some (.ref u), some (.int 6), some (.int 3), some (.ref sc), some (.ref fo), y6] ∧ Keep d c H H' ∧ Deck H' d c (N + 1 + 20000 * (i : Int)) ∧ H' fo = some (.lst us) ∧ SVs K H' us ds ∧ us.length = i ∧ Scp H' d c sc scope ∧ scope.length ≤ i ∧ sc ≠ fo) ?_ ?_ ?_
  · exact ⟨sc, none, [], [], [], rfl, (Keep.of s12).trans k2, D2.mono (by omega), k2 _ _ hfo.1 hfo.2 h2, .nil, rfl, ⟨k2 _ _ hsc.1 hsc.2 h1, hsc, fun z hz => (nomatch hz), Nat.zero_le _⟩, Nat.zero_le _, hsf⟩
  · rintro i σ H3 hi ⟨sc, y6, us, ds, scope, rfl, k3, D3, hf, hs, hl, S, hsl, nsf⟩
    refine ⟨.ref fo, rfl, .inl ⟨rfl, us, .inl (.inl hf)⟩, .ref d, rfl, .ref u, rfl, .ref sc, rfl, .int 3, rfl, d, c, u, tl, cl, nl, sc, _, ts, cs, ns, scope, rfl, D3, by omega, W.keep k3, S, fun H4 v x k4 D4 sv => ?_⟩
    have hf4 := k4 _ _ hfo.1 hfo.2 hf
    have S4 := S.keep k4
    have hs4 := svs_keep (k4.t D3) hs
    refine ⟨fo, us, v, rfl, rfl, hf4, small1000 (by omega), ?_⟩
    have kf : KeepT H4 (upd H4 fo (.lst (us ++ [v]))) := KeepT.lst hf4
    have hf5 : upd H4 fo (.lst (us ++ [v])) fo = some (.lst (us ++ [v])) := upd_same
    have hs5 := svs_append (svs_keep kf hs4) (.cons (sv.keep kf) .nil)
    have sv5 := sv.keep kf
    have D5 := D4.upd (o := .lst (us ++ [v])) hfo.1 hfo.2
    have k5 : Keep d c H (upd H4 fo (.lst (us ++ [v]))) := fun b o n1 n2 e => by
      rw [upd_ne (ne_of_none e nfoH)]
      exact k4 _ _ n1 n2 (k3 _ _ n1 n2 e)
    have hsc5 : upd H4 fo (.lst (us ++ [v])) sc = some (.lst (scope.map V.str)) := by
      rw [upd_ne nsf]
      exact S4.at'
    revert hf5 hs5 sv5 D5 k5 hsc5
    generalize upd H4 fo (.lst (us ++ [v])) = H5
    intro hf5 hs5 sv5 D5 k5 hsc5
    obtain ⟨p, w', v1, vs, rfl, hp, hlet, hdp, hfin⟩ := id sv5
    refine ⟨.ref sc, rfl, .ref fo, rfl, 1, rfl, fo, _, -1, .ref p, rfl, rfl, .inl (.inl hf5), atI_last _ _, p, _, 1, v1, rfl, rfl, .inl (.inl hp), at1, h1000 (show 1 ≤ 1000 by decide), fun l1 nl1 => ?_⟩
    have s6 := same_upd (o := .lst [v1]) nl1
    have hl1 : upd H5 l1 (.lst [v1]) l1 = some (.lst [v1]) := upd_same
    revert s6 hl1
    generalize upd H5 l1 (.lst [v1]) = H6
    intro s6 hl1
    refine ⟨.ref fo, rfl, 1, rfl, fo, _, -1, .ref p, rfl, rfl, .inl (.inl (s6 _ _ hf5)), atI_last _ _, p, _, 0, .str w', rfl, rfl, .inl (.inl (s6 _ _ hp)), at0, rfl, .inr ⟨_, rfl, ?_⟩⟩
    refine ⟨l1, _, [v1], rfl, rfl, hl1, ?_, ?_, ?_, fun l2 nl2 => ?_⟩
    · split <;> decide
    · split <;> decide
    · split
      · exact h1000 (show 1 * 1 ≤ 1000 by decide)
      · exact h1000 (show 1 * 0 ≤ 1000 by decide)
    obtain ⟨more, hmore, hm1, hmn⟩ : ∃ more : List Str, (List.replicate (if decide (V.str w' = V.str "let") = true then 1 else 0 : Int).toNat [v1]).flatten = more.map V.str ∧ more.length ≤ 1 ∧ ∀ z, z ∈ more → Nm z := by
      by_cases e : V.str w' = V.str "let"
      · obtain ⟨z, rfl, hz⟩ := hlet (V.str.inj e)
        rw [decide_eq_true e]
        exact ⟨[z], rfl, Nat.le_refl _, fun y hy => by rw [List.mem_singleton.mp hy]; exact hz⟩
      · rw [decide_eq_false e]
        exact ⟨[], rfl, Nat.zero_le _, fun y hy => (nomatch hy)⟩
    rw [hmore]
    have s7 := same_upd (o := .lst (more.map V.str)) nl2
    have hl2 : upd H6 l2 (.lst (more.map V.str)) l2 = some (.lst (more.map V.str)) := upd_same
    have s67 := s6.trans s7
    revert s67 hl2
    clear s7 nl2
    generalize upd H6 l2 (.lst (more.map V.str)) = H7
    intro hl2 s67
    refine ⟨sc, l2, _, _, rfl, rfl, s67 _ _ hsc5, hl2, ?_, fun sc2 nsc2 => ?_⟩
    · rw [List.length_map, List.length_map]
      exact h1000 (by omega)
    rw [← List.map_append]
    have s8 := same_upd (o := .lst ((scope ++ more).map V.str)) nsc2
    have s58 := s67.trans s8
    have hsc2 := (D5.same s67).new nsc2
    exact ⟨sc2, _, us ++ [.ref p], ds ++ [x], scope ++ more, rfl, k5.trans (Keep.of s58), (D5.same s58).mono (by omega), s58 _ _ hf5, svs_keep (KeepT.of s58) hs5, by rw [List.length_append, hl]; rfl, ⟨upd_same, hsc2, fun z hz => by
      rcases List.mem_append.mp hz with h | h
      · exact S.nm z h
      · exact hmn z h, by rw [List.length_append]; omega⟩, by rw [List.length_append]; omega, (ne_of_none (s67 _ _ hf5) nsc2).symm⟩
  · rintro σ H3 ⟨sc, y6, us, ds, scope, rfl, k3, D3, hf, hs, hl, S, hsl, nsf⟩
    refine ⟨.ref fo, rfl, fo, us, rfl, .inl ⟨.inl (.inl hf), fun p np => ?_⟩⟩
    have s4 := same_upd (o := .tup us) np
    exact q _ p us ds (k3.trans (Keep.of s4)) ((D3.same s4).mono (by omega)) upd_same (svs_keep (KeepT.of s4) hs) (by omega)
end
end L16

namespace WX
open PySem PySem.Spec PySem.AutoSeq1
theorem ext_tup (l : Addr) (items : Array Value) (n : Nat) (b : Addr) (items2 : Array Value) (n2 : Nat) (dd : Option Addr) (sl : Array (Option Value)) (hs0 : ¬(!items.isEmpty && Builtin.List.listTooLong (items.size + items2.size)) = true) (hs1 : items.size ≤ sizeLine) (hs2 : items.size + items2.size ≤ sizeLine + 1) :
    Meets (Builtin.«list.extend» ⟨[.ref l, .ref b], []⟩) (fun _ R s => s.heap.get? l = some { cls := .type "list", dict := none, data := .seq items n, slots := #[] } ∧ s.heap.get? b = some { cls := .type "tuple", dict := dd, data := .seq items2 n2, slots := sl } ∧ R (.ok (.ret Value.none)) { s with heap := s.heap.update l (Obj.mapSeq fun x => x ++ items2), toks := s.toks }) := by
  refine .of_wp fun prog w A R s h => ?_
  obtain ⟨hp, g, d, tk, os⟩ := s
  obtain ⟨hl, hb, h⟩ := h
  have f1 := idx_int
  have f2 := sub_tuple_tuple
  have f3 := sub_list_list
  have f4 := sub_tuple_list
  have f5 := sub_list_tuple
  have hz' : (items ++ items2).size ≤ sizeLine + 1 := by
    rw [Array.size_append]
    exact hs2
  wp_walk using (wpAny_updateSeq hl rfl (hz := hs1) (_hz' := hz')), wpAny_loadPart' hl, wpAny_loadPart' hb
  exact ⟨_, rfl, h⟩
end WX

/-! Words that the hand layer lacks: a list extended by a tuple. -/
namespace WX
open PySem PySem.Spec PyProof.Rows L2
def rExtendT (K : PySem.W.Frag) : V → List V → Hp → VK → Prop := fun x vs H Q => ∃ (l b : Addr) (xs zs : List V), x = .ref l ∧ vs = [.ref b] ∧ H l = some (.lst xs) ∧ SqT K H b zs ∧ xs.length + zs.length ≤ sizeLine ∧ Q .non (upd H l (.lst (xs ++ zs)))
section
variable {X : Cx}
theorem mt_extendT : MtM X "list.extend" (rExtendT X.K) := by
  intro pins s σ H x vs v us Q I rx rv h
  obtain ⟨l, b, xs, zs, rfl, rfl, hH, hB, hz, q⟩ := h
  cases rx
  obtain ⟨u, rfl, ru⟩ := rv.one
  cases ru
  obtain ⟨z, its, n, r, hl, e⟩ := I.lstM hH
  obtain ⟨its2, r2, ⟨⟨c2, d2, dat2, sl2⟩, g2, hc2, n2, hd2⟩, z2⟩ := I.tuple hB
  have hc2 : c2 = .type "tuple" := hc2
  have hd2 : dat2 = .seq its2.toArray n2 := hd2
  subst hc2
  subst hd2
  have hl2 := r2.length
  have small : its.toArray.size + its2.toArray.size ≤ sizeLine := by
    rw [List.size_toArray, List.size_toArray]
    omega
  have short : ¬ (!its.toArray.isEmpty && Builtin.List.listTooLong (its.toArray.size + its2.toArray.size)) = true := by
    rw [notLongL small, Bool.and_false]
    exact Bool.false_ne_true
  refine call_meets F.slot_list_extend ⟨_, e, rfl⟩ F.entry_list_extend (F.args_list_extend_2 _ _)
    (ext_tup l its.toArray n b its2.toArray n2 d2 sl2 short (by rw [List.size_toArray]; omega) (by omega)) ⟨e, g2, ?_⟩
  refine ⟨.non, _, I.lset (its' := its ++ its2) hH e (by simp) (r.append r2) ?_, rfl, q⟩
  rw [List.length_append]
  omega
/-- a list extended by a list or by a tuple -/
def rExtendA (K : PySem.W.Frag) : V → List V → Hp → VK → Prop := fun x vs H Q => rExtend x vs H Q ∨ rExtendT K x vs H Q
theorem mt_extendA : MtM X "list.extend" (rExtendA X.K) := by
  intro pins s σ H x vs v us Q I rx rv h
  rcases h with h | h
  · exact mt_extend pins s σ H x vs v us Q I rx rv h
  · exact mt_extendT pins s σ H x vs v us Q I rx rv h
end
end WX

/-! Words that the hand layer lacks: a call by place of a def with a star; max(list of ints, default=); frozen tuples; dict(tuple of pairs). -/
namespace SC
open PySem PySem.Spec PyProof.Rows L2
section
variable {X : Cx} {CX : CXT} {k : Nat} {f : Addr} {sp : Sp} {E : XK} {x : Str} {e : Expr} {es : List Expr} {t : TA} {p pos : Pos}
theorem pe_callR (F : FnR X.prog X.w X.K X.mg X.base CX k f sp) (hr : Room k X.A) (hg : Gl X x) (hm : X.mg x = some (.ref f)) (hk : PySem.W.keepIn X.K (.ref f) = true) (hx : Passes CX X E)
    (ha : PA X (e :: es) t) (hdb : (x == ("__debug__" : Str)) = false := by decide) (he : starEach (e :: es) X.env = (false, eval e X.env) :: starEach es X.env := by rfl) (hpl : (backTo pos (starEach es X.env)).any (·.1) = false := by rfl) :
    PE X (.Call (.Name x p) (e :: es) [] pos) (tCall sp [] E t) := by
  refine ⟨fun pins s σ H Q I h => ?_⟩
  refine wpAny_Call_Name_kw (ld_glob I hg hm ?_ hdb)
  refine PySem.W.callWith_K (h₀ := X.base) I.ok.mod.kin hk (thn (ha.run pos pins s σ H _ I h) fun us s1 ⟨vs, H1, I1, r, q⟩ => ⟨I1.kIn, ?_⟩) he hpl
  have q : sp (vs ++ []) H1 Q E := q
  rw [List.append_nil] at q
  exact wpAny_call (run_fnR F hr hx I1 r q)
theorem pe_callR0 (F : FnR X.prog X.w X.K X.mg X.base CX k f sp) (hr : Room k X.A) (hg : Gl X x) (hm : X.mg x = some (.ref f)) (hk : PySem.W.keepIn X.K (.ref f) = true) (hx : Passes CX X E)
    (hdb : (x == ("__debug__" : Str)) = false := by decide) : PE X (.Call (.Name x p) [] [] pos) (tCall sp [] E tNil) := by
  refine ⟨fun pins s σ H Q I h => ?_⟩
  refine wpAny_Call_Name_kw (ld_glob I hg hm ?_ hdb)
  exact PySem.W.callWith_K0 I.kIn hk (wpAny_call (run_fnR (us := []) F hr hx I .nil h))
end
/-! ### max of a list of ints, with a default -/
def rMaxI (K : PySem.W.Frag) : List V → List V → Hp → VK → Prop := fun vs zs H Q => ∃ (a : Addr) (ns : List Int) (d : V), vs = [.ref a] ∧ zs = [d] ∧ SqL K H a (ns.map V.int) ∧ ns ≠ [] ∧ ∀ n, n ∈ ns → (∀ m, m ∈ ns → m ≤ n) → Q (.int n) H
theorem holdAll_ints {h : Heap} : ∀ {ns : List Int} {us : List Value}, Vals (ns.map V.int) us → PySem.W.HoldAll h us ns
  | [], us, r => by
    rw [List.map_nil] at r
    cases r
    exact ⟨[], .nil⟩
  | n :: ns, us, r => by
    rw [List.map_cons] at r
    cases r with
    | cons a b =>
      obtain ⟨t, rfl⟩ := a
      obtain ⟨as, ih⟩ := holdAll_ints b
      exact ⟨_, .cons (.int n t) ih⟩
theorem maxI_ge : ∀ (xs : List Int) (x : Int), x ≤ PySem.W.maxOf x xs ∧ ∀ y, y ∈ xs → y ≤ PySem.W.maxOf x xs
  | [], x => ⟨Int.le_refl _, fun y h => nomatch h⟩
  | z :: xs, x => by
    have e : PySem.W.maxOf x (z :: xs) = PySem.W.maxOf (if x < z then z else x) xs := by
      show List.foldl _ _ xs = List.foldl _ _ xs
      congr 1
      show (if decide (x < z) = true then z else x) = _
      by_cases h : x < z
      · rw [if_pos h, if_pos (decide_eq_true h)]
      · rw [if_neg h, if_neg (by simpa using h)]
    obtain ⟨h1, h2⟩ := maxI_ge xs (if x < z then z else x)
    rw [e]
    refine ⟨Int.le_trans ?_ h1, fun y hy => ?_⟩
    · split <;> omega
    · rcases List.mem_cons.mp hy with rfl | hy
      · exact Int.le_trans (by split <;> omega) h1
      · exact h2 y hy
section
variable {X : Cx}
theorem cr_maxD (hc : X.calm = true) (hu : X.A.units + 1 + 0 < cLine) : CallRK X (.builtin "max") [Str.ofString "default"] (rMaxI X.K) := by
  intro pins s σ H vs zs us ws Q I r rz h
  obtain ⟨a, ns, d, rfl, rfl, hs, h0, q⟩ := h
  obtain rfl := Vals.ref1 r
  obtain ⟨w1, rfl, e1⟩ := vals1 rz
  obtain ⟨its, rv, hl, hz⟩ := I.list hs
  refine PySem.W.max_list_datum_default (α := Int) (I.ok.hd hc) hl.isList (holdAll_ints (by simpa using rv)) hu (fun z => absurd z h0) fun y ys i v h' tk e hi hv hk => ?_
  subst e
  obtain ⟨as, hv⟩ := hv
  obtain ⟨t, rfl, _⟩ := PyProof.Rows.reads_int_inv hv
  have hm : PySem.W.maxOf y ys ∈ y :: ys := by
    have hi' : its[i]? = some (.int (PySem.W.maxOf y ys) t) := by simpa using hi
    have hlt : i < its.length := (List.getElem?_eq_some_iff.mp hi').1
    rw [← rv.length, List.length_map] at hlt
    obtain ⟨u, g1, g2⟩ := rv.get (show ((y :: ys).map V.int)[i]? = some (V.int ((y :: ys)[i])) by rw [List.getElem?_map, List.getElem?_eq_getElem hlt]; rfl)
    rw [hi'] at g1
    cases g1
    obtain ⟨t', e'⟩ := g2
    have e2 : PySem.W.maxOf y ys = (y :: ys)[i] := by injection e'
    rw [e2]
    exact List.getElem_mem hlt
  have hg := maxI_ge ys y
  exact ⟨.int _, H, I.kept (t' := tk) hk, ⟨t, rfl⟩, q _ hm fun m hm' => by
    rcases List.mem_cons.mp hm' with rfl | hm'
    · exact hg.1
    · exact hg.2 m hm'⟩
end
/-! ### tuples whose objects are known; dict of such -/
/-- a tuple of which it is known that its object holds no dict -/
def TupF (H : Hp) (a : Addr) (xs : List V) : Prop := ∃ o : Obj, H a = some (.frz o (.tup xs)) ∧ o.dict = none
theorem TupF.sq {K : PySem.W.Frag} {H : Hp} {a : Addr} {xs : List V} (h : TupF H a xs) : SqT K H a xs := let ⟨o, e, _⟩ := h; .inl (.inr ⟨o, e⟩)
section
variable {X : Cx}
theorem call_tupleF : CallR X (.type "tuple") (fun xs H Q => ∃ p ys, xs = [.ref p] ∧ SqL X.K H p ys ∧ ∀ l o, o.dict = none → H l = none → Q (.ref l) (upd H l (.frz o (.tup ys)))) := by
  intro pins s σ H xs us Q I r h
  obtain ⟨p, ys, rfl, hq, q⟩ := h
  obtain ⟨u, rfl, rx⟩ := vals1 r
  cases rx
  obtain ⟨its, r', pl, hz⟩ := I.list hq
  have hlen := r'.length
  refine call_tuple_list pl.isList (fun h' kp => ?_) (by simp only [List.size_toArray] <;> omega)
  have I1 : Inv X pins σ H { s with heap := h' } := I.kept (t' := s.toks) kp
  have I2 : Inv X pins σ (upd H h'.objs.size (.frz { cls := .type "tuple", data := .seq its.toArray } (.tup ys))) { s with heap := h'.push { cls := .type "tuple", data := .seq its.toArray } } :=
    I1.laid (t' := s.toks) (fun b o e => Heap.get?_push_of_some _ e) (Nat.le_refl _) (show ObjOk X.prog X.w _ _ _ (.frz _ (.tup ys)) from ⟨Heap.get?_push_size _ rfl, hz, its, r', IsTup.new _ _⟩)
  exact ⟨.ref h'.objs.size, _, I2, rfl, q _ _ rfl (I1.hok.fresh (Nat.le_refl _))⟩
theorem pairs_of2 {pins : List (Addr × Obj)} {σ : L2.St} {H : Hp} {s : Shared} (I : Inv X pins σ H s) : ∀ {ps : List Addr} {kvs : List (Key × V)}, Paired (fun p kv => SqT X.K H p [kV kv.1, kv.2]) ps kvs →
    ∃ (prs : List (Key × Value)) (qs : List (Value × Value)), KV kvs prs ∧ prs.length = ps.length ∧ qs.length = ps.length ∧
      (∀ (j : Nat) (u v : Value), qs[j]? = some (u, v) → ∃ (b : Addr) (k : Key), ps[j]? = some b ∧ prs[j]? = some (k, v) ∧ IsTup s.heap b #[u, v] ∧ keyIs k u = true)
  | _, _, .nil => ⟨[], [], .nil, rfl, rfl, fun j u v e => by simp at e⟩
  | _, _, .cons (a := p) (b := kv) h t => by
    obtain ⟨prs, qs, r, hl, hl2, hp⟩ := pairs_of2 I t
    obtain ⟨its, rv, ht, _⟩ := I.tuple h
    obtain ⟨u, y, ei, ru, ry⟩ := vals2 rv
    subst ei
    refine ⟨(kv.1, y) :: prs, (u, y) :: qs, .cons ⟨rfl, ry⟩ r, by rw [List.length_cons, List.length_cons, hl], by rw [List.length_cons, List.length_cons, hl2], fun j u' v' e => ?_⟩
    cases j with
    | zero =>
      have e' : (u, y) = (u', v') := Option.some.inj e
      cases e'
      exact ⟨p, kv.1, rfl, rfl, ht, kV_is (P := X.prog) (w := X.w) ru⟩
    | succ j =>
      obtain ⟨b, k, e1, e2, e3, e4⟩ := hp j u' v' (by simpa using e)
      exact ⟨b, k, by simpa using e1, by simpa using e2, e3, e4⟩
theorem call_dictT (hcalm : X.calm = true) : CallR X (.type "dict") (fun xs H Q => ∃ (a : Addr) (ps : List Addr) (kvs : List (Key × V)), xs = [.ref a] ∧ TupF H a (ps.map V.ref) ∧ Paired (fun p kv => SqT X.K H p [kV kv.1, kv.2]) ps kvs ∧
    ∀ p, H p = none → Q (.ref p) (upd H p (.dK (mergeK [] kvs)))) := by
  intro pins s σ H xs us Q I r q
  obtain ⟨a, ps, kvs, ex, ⟨o, hq, hdn⟩, hp, q⟩ := q
  subst ex
  obtain ⟨u, eu, rx⟩ := vals1 r
  subst eu
  cases rx
  obtain ⟨ho, hz, its, rv, o', ho', hc, n, hdat⟩ := I.hok _ _ hq
  rw [ho] at ho'
  cases ho'
  have ei := refs_at rv
  subst ei
  rw [List.length_map] at hz
  obtain ⟨prs, qs, rel, hl, hl2, hpr⟩ := pairs_of2 I hp
  refine PySem.call_dict_pairs (knd := mixKind X.prog X.w) (kvs := prs) (PySem.PairArg.tuple a (ps.map Value.ref).toArray (fun j => ps.getD j 0) qs) (I.ok.hd hcalm) ⟨⟨o, n, ho, hc, hdn, hdat⟩, by simp [hl2], fun j k v e => ?_⟩ ⟨by rw [hl, hl2], fun i key v e => ?_⟩ (by rw [hl2]; exact hz) fun h' tk hd' k => ?_
  · obtain ⟨b, k', e1, e2, e3, e4⟩ := hpr j k v e
    have eb : ps.getD j 0 = b := by rw [List.getD_eq_getElem?_getD, e1]; rfl
    show _ ∧ PySem.PairAt s.heap (ps.getD j 0) k v
    rw [eb]
    exact ⟨by simp [e1], .inl e3⟩
  · obtain ⟨b, k', e1, e2, e3, e4⟩ := hpr i key v e
    exact ⟨k', e2, e4⟩
  · have hm : (s.heap.objs.size == sysModules) = false := beq_eq_false_iff_ne.mpr (Nat.ne_of_gt I.big)
    have hlen : (mergeK [] kvs).length ≤ sizeLine := by
      refine Nat.le_trans (length_mergeK kvs []) ?_
      rw [List.length_nil, Nat.zero_add, rel.length, hl]
      exact hz
    exact ⟨.ref s.heap.objs.size, upd H s.heap.objs.size (.dK (mergeK [] kvs)), I.laid (t' := tk) (fun b ob e => k b ob (fun z => nomatch z) e) (Nat.le_refl _) (show ObjOk X.prog X.w _ _ _ (.dK (mergeK [] kvs)) from ⟨hlen, hm, merged [] prs, KV.merge rel .nil, hd'⟩), rfl, q _ (I.hok.fresh (Nat.le_refl _))⟩
end
end SC

namespace L16
open PySem PySem.Spec PyProof.Rows L2 GR
abbrev St1 := V × PyData
abbrev En := Int × V × PyData
/-- an entry at r -/
def EnOk (K : PySem.W.Frag) (H : Hp) (r : Addr) (e : En) : Prop := H r = some (.tup [.int e.1, e.2.1]) ∧ SV K H e.2.1 e.2.2
theorem EnOk.keep {K : PySem.W.Frag} {H H' : Hp} {r : Addr} {e : En} (h : EnOk K H r e) (k : KeepT H H') : EnOk K H' r e := ⟨k.1 _ _ h.1, h.2.keep k⟩
abbrev EnsOk (K : PySem.W.Frag) (H : Hp) : List Addr → List En → Prop := Paired (EnOk K H)
theorem ens_keep {K : PySem.W.Frag} {H H' : Hp} (k : KeepT H H') : ∀ {rs : List Addr} {es : List En}, EnsOk K H rs es → EnsOk K H' rs es
  | _, _, .nil => .nil
  | _, _, .cons h t => .cons (h.keep k) (ens_keep k t)
theorem ens_append {K : PySem.W.Frag} {H : Hp} : ∀ {rs us : List Addr} {es fs : List En}, EnsOk K H rs es → EnsOk K H us fs → EnsOk K H (rs ++ us) (es ++ fs)
  | _, _, _, _, .nil, h => h
  | _, _, _, _, .cons h t, g => .cons h (ens_append t g)
theorem ens_len {K : PySem.W.Frag} {H : Hp} {rs : List Addr} {es : List En} (h : EnsOk K H rs es) : rs.length = es.length := Paired.length h
def ed (e : En) : PyData := .tuple [.int e.1, e.2.2]
def logD (ms : List Int) (es : List En) : PyData := .tuple [.tuple (ms.map PyData.int), .tuple (es.map ed)]
/-- a log at p -/
def Lg (K : PySem.W.Frag) (H : Hp) (p : Addr) (ms : List Int) (es : List En) : Prop := ∃ (mp ep : Addr) (rs : List Addr), H p = some (.tup [.ref mp, .ref ep]) ∧ H mp = some (.tup (ms.map V.int)) ∧ Rd H ep (.tup (rs.map V.ref)) ∧ EnsOk K H rs es
theorem rd_keep {H H' : Hp} {a : Addr} {xs : List V} (h : Rd H a (.tup xs)) (k : KeepT H H') : Rd H' a (.tup xs) := by
  rcases h with h | ⟨o, h⟩
  · exact .inl (k.1 _ _ h)
  · exact .inr ⟨o, k.2 _ _ _ h⟩
/-- a log whose tuple of entries has an object known to hold no dict -/
def LgF (K : PySem.W.Frag) (H : Hp) (p : Addr) (ms : List Int) (es : List En) : Prop := ∃ (mp ep : Addr) (rs : List Addr), H p = some (.tup [.ref mp, .ref ep]) ∧ H mp = some (.tup (ms.map V.int)) ∧ SC.TupF H ep (rs.map V.ref) ∧ EnsOk K H rs es
theorem LgF.lg {K : PySem.W.Frag} {H : Hp} {p : Addr} {ms : List Int} {es : List En} (h : LgF K H p ms es) : Lg K H p ms es := by
  obtain ⟨mp, ep, rs, h1, h2, ⟨o, h3, _⟩, h4⟩ := h
  exact ⟨mp, ep, rs, h1, h2, .inr ⟨o, h3⟩, h4⟩
theorem tupF_keep {H H' : Hp} {a : Addr} {xs : List V} (h : SC.TupF H a xs) (k : KeepT H H') : SC.TupF H' a xs := let ⟨o, e, d⟩ := h; ⟨o, k.2 _ _ _ e, d⟩
theorem LgF.keep {K : PySem.W.Frag} {H H' : Hp} {p : Addr} {ms : List Int} {es : List En} (h : LgF K H p ms es) (k : KeepT H H') : LgF K H' p ms es := by
  obtain ⟨mp, ep, rs, h1, h2, h3, h4⟩ := h
  exact ⟨mp, ep, rs, k.1 _ _ h1, k.1 _ _ h2, tupF_keep h3 k, ens_keep k h4⟩
theorem Lg.keep {K : PySem.W.Frag} {H H' : Hp} {p : Addr} {ms : List Int} {es : List En} (h : Lg K H p ms es) (k : KeepT H H') : Lg K H' p ms es := by
  obtain ⟨mp, ep, rs, h1, h2, h3, h4⟩ := h
  exact ⟨mp, ep, rs, k.1 _ _ h1, k.1 _ _ h2, rd_keep h3 k, ens_keep k h4⟩
theorem dp_ints' {K : PySem.W.Frag} {H : Hp} : ∀ ns : List Int, DpAll K H (ns.map V.int) (ns.map PyData.int)
  | [] => .nil
  | n :: ns => .cons (.int n) (dp_ints' ns)
theorem sv_dp {K : PySem.W.Frag} {H : Hp} {v : V} {x : PyData} (h : SV K H v x) : Dp K H v x ∧ Fine 8 12000 x := by
  obtain ⟨p, w, v1, vs, rfl, h1, h2, h3, h4⟩ := h
  exact ⟨h3, h4⟩
theorem ens_dp {K : PySem.W.Frag} {H : Hp} : ∀ {rs : List Addr} {es : List En}, EnsOk K H rs es → DpAll K H (rs.map V.ref) (es.map ed)
  | _, _, .nil => .nil
  | _, _, .cons h t => .cons (.tup (.inl (.inl h.1)) (.cons (.int _) (.cons (sv_dp h.2).1 .nil))) (ens_dp t)
theorem Lg.dp {K : PySem.W.Frag} {H : Hp} {p : Addr} {ms : List Int} {es : List En} (h : Lg K H p ms es) : Dp K H (.ref p) (logD ms es) := by
  obtain ⟨mp, ep, rs, h1, h2, h3, h4⟩ := h
  exact .tup (.inl (.inl h1)) (.cons (.tup (.inl (.inl h2)) (dp_ints' ms)) (.cons (.tup (.inl h3) (ens_dp h4)) .nil))
/-- what is true of its numbers -/
structure OkL (ms : List Int) (es : List En) : Prop where
  asc : (es.map (·.1)).Pairwise (· < ·)
  mono : ms.Pairwise (· ≤ ·)
  eb : ∀ e, e ∈ es → 0 ≤ e.1 ∧ e.1 ≤ 10000
  mb : ∀ m, m ∈ ms → 0 ≤ m ∧ m ≤ 10000
  m0 : (0 : Int) ∈ ms
  ml : ms.length ≤ 6
  el : es.length ≤ 30
/-- the transactions in the list at so -/
structure Sm (K : PySem.W.Frag) (H : Hp) (so : Addr) (T : List (Addr × List St1)) : Prop where
  at' : H so = some (.lst (T.map fun t => V.ref t.1))
  tr : ∀ t, t ∈ T → H t.1 = some (.tup (t.2.map (·.1))) ∧ t.2.length ≤ 6 ∧ ∀ s, s ∈ t.2 → SV K H s.1 s.2
  len : T.length ≤ 5
theorem Sm.keep {K : PySem.W.Frag} {H H' : Hp} {so : Addr} {T : List (Addr × List St1)} (h : Sm K H so T) (k : KeepT H H') (hs : H' so = H so) : Sm K H' so T :=
  ⟨hs.trans h.at', fun t ht => ⟨k.1 _ _ (h.tr t ht).1, (h.tr t ht).2.1, fun s hs' => ((h.tr t ht).2.2 s hs').keep k⟩, h.len⟩
def entN (k : Nat) : List St1 → List En
  | [] => []
  | s :: l => ((k : Int), s.1, s.2) :: entN (k + 1) l
def mks (k : Nat) : List (List St1) → List Int
  | [] => []
  | t :: T => ((k + t.length : Nat) : Int) :: mks (k + t.length) T
theorem entN_append : ∀ (a b : List St1) (k : Nat), entN k (a ++ b) = entN k a ++ entN (k + a.length) b
  | [], b, k => rfl
  | s :: a, b, k => by
    rw [List.cons_append, entN, entN, entN_append a b (k + 1), List.cons_append, List.length_cons, show k + 1 + a.length = k + (a.length + 1) by omega]
theorem entN_len : ∀ (a : List St1) (k : Nat), (entN k a).length = a.length
  | [], k => rfl
  | s :: a, k => by rw [entN, List.length_cons, List.length_cons, entN_len a (k + 1)]
theorem mks_append : ∀ (a b : List (List St1)) (k : Nat), mks k (a ++ b) = mks k a ++ mks (k + a.flatten.length) b
  | [], b, k => rfl
  | t :: a, b, k => by
    rw [List.cons_append, mks, mks, mks_append a b, List.cons_append, List.flatten_cons, List.length_append, Nat.add_assoc]
theorem mks_len : ∀ (a : List (List St1)) (k : Nat), (mks k a).length = a.length
  | [], k => rfl
  | t :: a, k => by rw [mks, List.length_cons, List.length_cons, mks_len a]
theorem entN_ge : ∀ (a : List St1) (k : Nat) (e : En), e ∈ entN k a → (k : Int) ≤ e.1 ∧ e.1 < ((k + a.length : Nat) : Int)
  | [], k, e, h => (nomatch h)
  | s :: a, k, e, h => by
    rw [entN] at h
    rw [List.length_cons]
    rcases List.mem_cons.mp h with rfl | h
    · exact ⟨Int.le_refl _, by show (k : Int) < _; omega⟩
    · have := entN_ge a (k + 1) e h
      omega
theorem entN_asc : ∀ (a : List St1) (k : Nat), ((entN k a).map (·.1)).Pairwise (· < ·)
  | [], k => .nil
  | s :: a, k => by
    rw [entN, List.map_cons]
    refine .cons (fun m hm => ?_) (entN_asc a (k + 1))
    obtain ⟨e, he, rfl⟩ := List.mem_map.mp hm
    have := (entN_ge a (k + 1) e he).1
    show (k : Int) < e.1
    omega
theorem mks_ge : ∀ (a : List (List St1)) (k : Nat) (m : Int), m ∈ mks k a → (k : Int) ≤ m ∧ m ≤ ((k + a.flatten.length : Nat) : Int)
  | [], k, m, h => (nomatch h)
  | t :: a, k, m, h => by
    rw [mks] at h
    rw [List.flatten_cons, List.length_append]
    rcases List.mem_cons.mp h with rfl | h
    · omega
    · have := mks_ge a (k + t.length) m h
      omega
theorem mks_mono : ∀ (a : List (List St1)) (k : Nat), (mks k a).Pairwise (· ≤ ·)
  | [], k => .nil
  | t :: a, k => by
    rw [mks]
    exact .cons (fun m hm => (mks_ge a _ m hm).1) (mks_mono a _)
theorem flat_len {T : List (List St1)} {b : Nat} : (∀ t, t ∈ T → t.length ≤ b) → T.flatten.length ≤ T.length * b := by
  induction T with
  | nil => intro _; exact Nat.zero_le _
  | cons t T ih =>
    intro h
    have h1 := h t List.mem_cons_self
    have h2 := ih fun y hy => h y (List.mem_cons_of_mem _ hy)
    rw [List.flatten_cons, List.length_append, List.length_cons, Nat.succ_mul]
    omega
theorem okL_counted {T : List (List St1)} (h1 : T.length ≤ 5) (h2 : ∀ t, t ∈ T → t.length ≤ 6) : OkL (0 :: mks 0 T) (entN 0 T.flatten) := by
  have hf := flat_len h2
  have hf30 : T.flatten.length ≤ 30 := by omega
  refine ⟨entN_asc _ _, .cons (fun m hm => (mks_ge T 0 m hm).1) (mks_mono T 0), fun e he => ?_, fun m hm => ?_, List.mem_cons_self, by rw [List.length_cons, mks_len]; omega, by rw [entN_len]; exact hf30⟩
  · have := entN_ge _ _ e he
    omega
  · rcases List.mem_cons.mp hm with rfl | hm
    · omega
    · have := mks_ge T 0 m hm
      omega
/-! ### how it is shown -/
theorem fines_ints {k : Nat} : ∀ {ms : List Int}, (∀ m, m ∈ ms → 0 ≤ m ∧ m ≤ 10000) → Fines k (22 * ms.length) (ms.map PyData.int)
  | [], _ => .nil
  | m :: ms, h => by
    have h1 := h m List.mem_cons_self
    have h2 := fines_ints (k := k) fun y hy => h y (List.mem_cons_of_mem _ hy)
    rw [List.length_cons, show 22 * (ms.length + 1) = 22 + 22 * ms.length by omega, List.map_cons]
    exact .cons (Fine.int (by omega) (by omega)).k0 h2
theorem fines_ens {es : List En} (h : ∀ e, e ∈ es → (0 ≤ e.1 ∧ e.1 ≤ 10000) ∧ Fine 8 12000 e.2.2) : Fines 9 (12030 * es.length) (es.map ed) := by
  induction es with
  | nil => exact .nil
  | cons e es ih =>
    have h1 := h e List.mem_cons_self
    rw [List.length_cons, show 12030 * (es.length + 1) = 12030 + 12030 * es.length by omega, List.map_cons]
    exact .cons (((Fines.cons (Fine.int (by omega) (by omega)).k0 (.cons h1.2 .nil)).tup).mono (by decide) (by decide)) (ih fun y hy => h y (List.mem_cons_of_mem _ hy))
theorem ens_fine {K : PySem.W.Frag} {H : Hp} : ∀ {rs : List Addr} {es : List En}, EnsOk K H rs es → ∀ e, e ∈ es → Fine 8 12000 e.2.2
  | _, _, .nil, e, h => (nomatch h)
  | _, _, .cons h t, e, he => by
    rcases List.mem_cons.mp he with rfl | he
    · exact (sv_dp h.2).2
    · exact ens_fine t e he
theorem Lg.fine {K : PySem.W.Frag} {H : Hp} {p : Addr} {ms : List Int} {es : List En} (h : Lg K H p ms es) (o : OkL ms es) : Fine 11 400000 (logD ms es) := by
  obtain ⟨mp, ep, rs, h1, h2, h3, h4⟩ := h
  have a := (fines_ints (k := 0) o.mb).tup
  have b := (fines_ens fun e he => ⟨o.eb e he, ens_fine h4 e he⟩).tup
  have ml := o.ml
  have el := o.el
  exact ((Fines.cons (a.mono (show 0 + 1 ≤ 10 by decide) (Nat.le_refl _)) (.cons b .nil)).tup).mono (by decide) (by omega)
end L16

namespace L16
open PySem PySem.Spec PyProof.Rows L2 GR
section
variable {P : Program} {w : World} {K : PySem.W.Frag} {mg : Str → Option Value} {base : Heap}
abbrev s_law_counted : Stmt := topS 17
abbrev N_co : List Str := ["_law_some", "_law_marks", "_law_lines", "_law_transaction_here", "_law_statement_here"]
theorem sc_law_counted : FnScope N_co ["_law_some"] (defScope s_law_counted) := ⟨rfl, rfl, rfl, by decide +kernel, rfl, by decide +kernel, by decide +kernel⟩
def sp_counted (K : PySem.W.Frag) : Sp := fun vs H Q _ => ∃ (so : Addr) (T : List (Addr × List St1)), vs = [.ref so] ∧ Sm K H so T ∧ ∀ H' p, Same H H' → Lg K H' p (0 :: mks 0 (T.map (·.2))) (entN 0 (T.map (·.2)).flatten) → Q (.ref p) H'
/-- two lists are being made -/
structure Two (K : PySem.W.Frag) (H0 : Hp) (mb lb : Addr) (ms : List Int) (es : List En) (H : Hp) : Prop where
  hm : H mb = some (.lst (ms.map V.int))
  hl : ∃ rs : List Addr, H lb = some (.lst (rs.map V.ref)) ∧ EnsOk K H rs es
  old : ∀ b ob, b ≠ mb → b ≠ lb → H0 b = some ob → H b = some ob
theorem Two.same {K : PySem.W.Frag} {H0 H H' : Hp} {mb lb : Addr} {ms : List Int} {es : List En} (t : Two K H0 mb lb ms es H) (s : Same H H') : Two K H0 mb lb ms es H' := by
  obtain ⟨rs, h1, h2⟩ := t.hl
  exact ⟨s _ _ t.hm, ⟨rs, s _ _ h1, ens_keep (KeepT.of s) h2⟩, fun b ob n1 n2 e => s _ _ (t.old b ob n1 n2 e)⟩
theorem Two.kt {K : PySem.W.Frag} {H0 H : Hp} {mb lb : Addr} {ms : List Int} {es : List En} (t : Two K H0 mb lb ms es H) (nm : ∀ xs, H0 mb ≠ some (.tup xs)) (nl : ∀ xs, H0 lb ≠ some (.tup xs)) (nm2 : ∀ o xs, H0 mb ≠ some (.frz o (.tup xs))) (nl2 : ∀ o xs, H0 lb ≠ some (.frz o (.tup xs))) : KeepT H0 H :=
  ⟨fun b xs e => t.old b _ (fun z => by subst z; exact nm _ e) (fun z => by subst z; exact nl _ e) e, fun b o xs e => t.old b _ (fun z => by subst z; exact nm2 _ _ e) (fun z => by subst z; exact nl2 _ _ e) e⟩
/-- one more line -/
theorem Two.line {K : PySem.W.Frag} {H0 H : Hp} {mb lb r : Addr} {ms : List Int} {es : List En} {e : En} (t : Two K H0 mb lb ms es H) (hml : mb ≠ lb) (hr : EnOk K H r e) : ∃ rs : List Addr, H lb = some (.lst (rs.map V.ref)) ∧ rs.length = es.length ∧ Two K H0 mb lb ms (es ++ [e]) (upd H lb (.lst (rs.map V.ref ++ [.ref r]))) := by
  obtain ⟨rs, h1, h2⟩ := t.hl
  have kt : KeepT H (upd H lb (.lst (rs.map V.ref ++ [.ref r]))) := KeepT.lst h1
  refine ⟨rs, h1, ens_len h2, by rw [upd_ne hml]; exact t.hm, ⟨rs ++ [r], by rw [List.map_append]; exact upd_same, ens_append (ens_keep kt h2) (.cons (hr.keep kt) .nil)⟩, fun b ob n1 n2 e => ?_⟩
  rw [upd_ne n2]
  exact t.old b ob n1 n2 e
/-- one more mark -/
theorem Two.mark {K : PySem.W.Frag} {H0 H : Hp} {mb lb : Addr} {ms : List Int} {es : List En} (t : Two K H0 mb lb ms es H) (hml : mb ≠ lb) (m : Int) : Two K H0 mb lb (ms ++ [m]) es (upd H mb (.lst (ms.map V.int ++ [.int m]))) := by
  obtain ⟨rs, h1, h2⟩ := t.hl
  have kt : KeepT H (upd H mb (.lst (ms.map V.int ++ [.int m]))) := KeepT.lst t.hm
  refine ⟨by rw [List.map_append]; exact upd_same, ⟨rs, by rw [upd_ne hml.symm]; exact h1, ens_keep kt h2⟩, fun b ob n1 n2 e => ?_⟩
  rw [upd_ne n1]
  exact t.old b ob n1 n2 e
theorem Sm.upd {K : PySem.W.Frag} {H : Hp} {so b : Addr} {T : List (Addr × List St1)} {ys zs : List V} (h : Sm K H so T) (hb : H b = some (.lst ys)) (n : so ≠ b) : Sm K (L2.upd H b (.lst zs)) so T := h.keep (KeepT.lst hb) (upd_ne n)
theorem Sm.same {K : PySem.W.Frag} {H H' : Hp} {so : Addr} {T : List (Addr × List St1)} (h : Sm K H so T) (s : Same H H') : Sm K H' so T := h.keep (KeepT.of s) (by rw [h.at']; exact s _ _ h.at')
theorem take_next {α : Type} {l : List α} {i : Nat} {x : α} (h : l[i]? = some x) : l.take (i + 1) = l.take i ++ [x] := by
  rw [List.take_add_one, h]
  rfl
theorem len_take {α : Type} {l : List α} {i : Nat} {x : α} (h : l[i]? = some x) : (l.take i).length = i := by
  have := (List.getElem?_eq_some_iff.mp h).1
  rw [List.length_take]
  omega
theorem ok_counted {f : Addr} {fd : FuncData} {k : Nat} (F : Fun K "_law_counted" "_law_counted" s_law_counted f fd) (mlen : mg "len" = none) (mtuple : mg "tuple" = none) : FnOk P w K mg base CX0 (k + 1) f fd ["_law_some"] (sp_counted K) := by
  have nd := sc_law_counted.nd
  refine F.ok sc_law_counted (fun vs H Q E h => ?_) (fun cdv A outer s H vs Q E hr h => ?_)
  · obtain ⟨so, T, rfl, _⟩ := h
    rfl
  obtain ⟨so, T, rfl, S, q⟩ := h
  refine ⟨_, (pss_cons (ps_set (i := 1) nd rfl (.inl rfl) (pe_lst (pa_cons pe_int pa_nil)))
      (pss_cons (ps_set (i := 2) nd rfl (.inl rfl) (pe_lst pa_nil))
      (pss_cons (ps_for PassesOwn.never rfl (pi_list (pv 0)) (pg_name (i := 3) nd rfl (Or.inl rfl))
      (pss_cons (ps_for PassesOwn.never rfl (pi_tup (pv 3)) (pg_name (i := 4) nd rfl (Or.inl rfl))
        (pss_one (ps_expr (pe_bm PySem.F.plainAttrs_list PySem.F.slot_list_append PySem.F.type_list_append mt_append (pv 2) (pa_cons (pe_tup (pa_cons (pe_callB call_len_seq (by rfl) mlen PySem.boot_len (pa_cons (pv 2) pa_nil)) (pa_cons (pv 4) pa_nil))) pa_nil)))))
        (pss_one (ps_expr (pe_bm PySem.F.plainAttrs_list PySem.F.slot_list_append PySem.F.type_list_append mt_append (pv 1) (pa_cons (pe_callB call_len_seq (by rfl) mlen PySem.boot_len (pa_cons (pv 2) pa_nil)) pa_nil))))))
      (pss_one (ps_ret (pe_tup (pa_cons (pe_callTy call_tuple_of (by rfl) mtuple boot_tuple (pa_cons (pv 1) pa_nil)) (pa_cons (pe_callTy call_tuple_of (by rfl) mtuple boot_tuple (pa_cons (pv 2) pa_nil)) pa_nil)))))))), ?_⟩
  refine ⟨h1000 (show 1 ≤ 1000 by decide), fun mb nmb => ⟨Nat.zero_le _, fun lb nlb => ?_⟩⟩
  have s1 := same_upd (o := .lst [.int 0]) nmb
  have s2 := same_upd (o := .lst []) nlb
  have hm := s2 _ _ (show upd H mb (.lst [.int 0]) mb = _ from upd_same)
  have hml : mb ≠ lb := ne_of_none (show upd H mb (.lst [.int 0]) mb = some (.lst [.int 0]) from upd_same) nlb
  have hl : upd (upd H mb (.lst [.int 0])) lb (.lst []) lb = some (.lst []) := upd_same
  have nlH := s1.free nlb
  have s12 := s1.trans s2
  have T1 : Two K H mb lb [0] (entN 0 []) (upd (upd H mb (.lst [.int 0])) lb (.lst [])) := ⟨hm, ⟨[], hl, .nil⟩, fun b ob n1 n2 e => s12 _ _ e⟩
  have hsm : so ≠ mb := ne_of_none S.at' nmb
  have hsl : so ≠ lb := ne_of_none (s1 _ _ S.at') nlb
  have S1 := S.same s12
  revert T1 S1
  clear hm hl s1 s2 s12 nlb
  generalize upd (upd H mb (.lst [.int 0])) lb (.lst []) = H1
  intro T1 S1
  refine ⟨.ref so, rfl, so, rfl, ⟨_, .inl (.inl S1.at')⟩, ?_⟩
  refine for_list (xs := T.map fun t => V.ref t.1) (fun i σ H' => ∃ y3 y4, σ = [some (.ref so), some (.ref mb), some (.ref lb), y3, y4] ∧ Sm K H' so T ∧ Two K H mb lb (0 :: mks 0 ((T.map (·.2)).take i)) (entN 0 ((T.map (·.2)).take i).flatten) H') ?_ ?_ ?_ ?_
  · exact ⟨none, none, rfl, S1, T1⟩
  · rintro i σ H' _ ⟨_, _, rfl, S', _⟩
    exact .inl (.inl S'.at')
  · rintro i x σ H2 hx ⟨y3, y4, rfl, S2, T2⟩
    rw [List.getElem?_map] at hx
    obtain ⟨t, ht, rfl⟩ := Option.map_eq_some_iff.mp hx
    have htm := List.mem_of_getElem? ht
    have ht2 : (T.map (·.2))[i]? = some t.2 := by rw [List.getElem?_map, ht]; rfl
    have hi : i < T.length := (List.getElem?_eq_some_iff.mp ht).1
    have hT5 := S.len
    have hfl : ((T.map (·.2)).take i).flatten.length ≤ 24 := by
      have := flat_len (T := (T.map (·.2)).take i) (b := 6) fun y hy => by
        obtain ⟨t', ht', rfl⟩ := List.mem_map.mp (List.mem_of_mem_take hy)
        exact (S.tr t' ht').2.1
      rw [List.length_take, List.length_map] at this
      omega
    have ht6 := (S2.tr t htm).2.1
    refine ⟨.ref t.1, rfl, t.1, rfl, ⟨_, .inl (.inl (S2.tr t htm).1)⟩, ?_⟩
    refine for_tup (xs := t.2.map (·.1)) (fun j σ H' => ∃ y4, σ = [some (.ref so), some (.ref mb), some (.ref lb), some (.ref t.1), y4] ∧ Sm K H' so T ∧ Two K H mb lb (0 :: mks 0 ((T.map (·.2)).take i)) (entN 0 (((T.map (·.2)).take i).flatten ++ t.2.take j)) H') ?_ ?_ ?_ ?_
    · refine ⟨_, rfl, S2, ?_⟩
      rw [List.take_zero, List.append_nil]
      exact T2
    · rintro j σ H' _ ⟨_, rfl, S', _⟩
      exact .inl (.inl (S'.tr t htm).1)
    · rintro j x σ H3 hx ⟨y4, rfl, S3, T3⟩
      rw [List.getElem?_map] at hx
      obtain ⟨s', hs, rfl⟩ := Option.map_eq_some_iff.mp hx
      have hj : j < t.2.length := (List.getElem?_eq_some_iff.mp hs).1
      have hsv := (S3.tr t htm).2.2 s' (List.mem_of_getElem? hs)
      obtain ⟨rs0, hl0, he0⟩ := T3.hl
      have hrl : rs0.length = (((T.map (·.2)).take i).flatten ++ t.2.take j).length := by rw [ens_len he0, entN_len]
      refine ⟨.ref lb, rfl, .inl ⟨rfl, _, .inl (.inl hl0)⟩, .ref lb, rfl, lb, _, rfl, .inl (.inl (.inl hl0)), s'.1, rfl, h1000 (show 2 ≤ 1000 by decide), fun r nr => ?_⟩
      have s4 := same_upd (o := .tup [.int ((rs0.map V.ref).length : Int), s'.1]) nr
      have hr : upd H3 r (.tup [.int ((rs0.map V.ref).length : Int), s'.1]) r = some (.tup [.int ((rs0.map V.ref).length : Int), s'.1]) := upd_same
      have hsv4 := hsv.keep (KeepT.of s4)
      have T4 := T3.same s4
      have S4 := S3.same s4
      revert s4 hr hsv4 T4 S4
      generalize upd H3 r (.tup [.int ((rs0.map V.ref).length : Int), s'.1]) = H4
      intro s4 hr hsv4 T4 S4
      have hen : EnOk K H4 r ((((T.map (·.2)).take i).flatten ++ t.2.take j).length, s'.1, s'.2) := ⟨by rw [hr, List.length_map, hrl], hsv4⟩
      obtain ⟨rs, hl5, hl6, T5⟩ := T4.line hml hen
      refine ⟨lb, _, .ref r, rfl, rfl, hl5, small1000 (by rw [List.length_map, hl6, entN_len, List.length_append, List.length_take]; omega), ?_⟩
      refine ⟨_, rfl, S4.upd hl5 hsl, ?_⟩
      rw [take_next hs, ← List.append_assoc, entN_append, Nat.zero_add]
      exact T5
    · rintro σ H3 ⟨y4, rfl, S3, T3⟩
      rw [List.length_map, List.take_length] at T3
      obtain ⟨rs0, hl0, he0⟩ := T3.hl
      have hrl : (rs0.map V.ref).length = (((T.map (·.2)).take i).flatten ++ t.2).length := by rw [List.length_map, ens_len he0, entN_len]
      refine ⟨.ref mb, rfl, .inl ⟨rfl, _, .inl (.inl T3.hm)⟩, .ref lb, rfl, lb, _, rfl, .inl (.inl (.inl hl0)), mb, _, _, rfl, rfl, T3.hm, small1000 (by rw [List.length_map, List.length_cons, mks_len, List.length_take, List.length_map]; omega), ?_⟩
      refine ⟨_, _, rfl, S3.upd T3.hm hsm, ?_⟩
      have e1 : (T.map (·.2)).take (i + 1) = (T.map (·.2)).take i ++ [t.2] := take_next ht2
      rw [e1, List.flatten_append, List.flatten_singleton, mks_append, Nat.zero_add]
      have := T3.mark hml ((((T.map (·.2)).take i).flatten ++ t.2).length : Nat)
      rw [hrl]
      rw [List.length_append] at this ⊢
      exact this
  · rintro σ H2 ⟨y3, y4, rfl, S2, T2⟩
    rw [List.length_map] at T2
    have e1 : (T.map (·.2)).take T.length = T.map (·.2) := by rw [← List.length_map (as := T) (·.2), List.take_length]
    rw [e1] at T2
    obtain ⟨rs0, hl0, he0⟩ := T2.hl
    refine ⟨.ref mb, rfl, mb, _, rfl, .inl ⟨.inl (.inl T2.hm), fun mp nmp => ?_⟩⟩
    have s3 := same_upd (o := .tup ((0 :: mks 0 (T.map (·.2))).map V.int)) nmp
    refine ⟨.ref lb, rfl, lb, _, rfl, .inl ⟨.inl (.inl (s3 _ _ hl0)), fun ep nep => ⟨h1000 (show 2 ≤ 1000 by decide), fun p np => ?_⟩⟩⟩
    have s4 := same_upd (o := .tup (rs0.map V.ref)) nep
    have s5 := same_upd (o := .tup [.ref mp, .ref ep]) np
    have s45 := s4.trans s5
    refine q _ p (fun b ob e => s45 _ _ (s3 _ _ (T2.old b ob (ne_of_none e nmb) (ne_of_none e nlH) e))) ⟨mp, ep, rs0, upd_same, s45 _ _ upd_same, .inl (s5 _ _ upd_same), ens_keep (KeepT.of (s3.trans s45)) he0⟩
end
end L16

/-! tuple(enumerate(xs)), xs a list: a new tuple of new pairs -/
namespace ET
open PySem PySem.Spec PyProof.Rows L2 PySem.W
theorem no_len : typeLookup (.type "enumerate") "__len__" = pure none := by (rw [typeLookup_type, builtinLookup_eq_fast]); kernel_rfl
theorem no_hint : typeLookup (.type "enumerate") "__length_hint__" = pure none := by (rw [typeLookup_type, builtinLookup_eq_fast]); kernel_rfl
/-- e goes over the list l by it and has given i pairs -/
def EnSt (h : Heap) (e it l S : Addr) (items : Array Value) (i : Nat) : Prop := h.IsListIter it l i ∧ h.IsList l items ∧ ((∃ old, IsEnum h e it i old) ∨ ∃ old T f oT, IsEnumHeld h e it i old T f ∧ h.get? T = some oT ∧ T ≠ e ∧ T ≠ it ∧ T ≠ S)
theorem EnSt.keep {h h' : Heap} {e it l S : Addr} {items : Array Value} {i : Nat} (x : EnSt h e it l S items i) (n : e ≠ S ∧ it ≠ S ∧ l ≠ S) (k : ∀ b o, b ≠ S → h.get? b = some o → h'.get? b = some o) : EnSt h' e it l S items i := by
  obtain ⟨a, b, c⟩ := x
  refine ⟨a.at fun o z => k _ o n.2.1 z, b.at fun o z => k _ o n.2.2 z, ?_⟩
  rcases c with ⟨old, c⟩ | ⟨old, T, f, oT, c, cT, r1, r2, r3⟩
  · exact .inl ⟨old, k _ _ n.1 c⟩
  · exact .inr ⟨old, T, f, oT, k _ _ n.1 c, k _ _ r3 cT, r1, r2, r3⟩
theorem EnSt.typeIs {h : Heap} {e it l S : Addr} {items : Array Value} {i : Nat} (x : EnSt h e it l S items i) (s : Shared) (hs : s.heap = h) : s.TypeIs (.ref e) "enumerate" := by
  subst hs
  obtain ⟨_, _, ⟨old, c⟩ | ⟨old, T, f, oT, c, _⟩⟩ := x
  · exact ⟨_, c, rfl⟩
  · exact ⟨_, c, rfl⟩
/-- the pairs made so far -/
def Prs (h : Heap) (items : Array Value) (as : List Addr) : Prop := ∀ (j : Nat) (a : Addr), as[j]? = some a → ∃ (v : Value) (t : Tok), items[j]? = some v ∧ h.get? a = some { cls := .type "tuple", data := .seq #[.int j t, v] }
section
variable {prog : Program} {w : World} {A : Around} {E : Value → Shared → Prop} {s : Shared} {e it l : Addr} {items : Array Value}
theorem one (hne : e ≠ it) (hl1 : l ≠ e) (hl2 : l ≠ it) {S i : Nat} {x : Value} {Q : Option Value → Shared → Prop} (st : EnSt s.heap e it l S items i) (hS : ∃ o, s.heap.get? S = some o) (hx : items[i]? = some x)
    (hQ : ∀ h' tk tk2, EnSt h' e it l S items (i + 1) → h'.get? s.heap.objs.size = some { cls := .type "tuple", data := .seq #[.int i tk, x] } → (∀ b o, b ≠ e → b ≠ it → s.heap.get? b = some o → h'.get? b = some o) → Q (some (.ref s.heap.objs.size)) { s with heap := h', toks := tk2 }) : wpAny (model prog w) A (pyNext (.ref e)) Q E s := by
  obtain ⟨a, b, c⟩ := st
  obtain ⟨oS, hS⟩ := hS
  have lt : ∀ {c o}, s.heap.get? c = some o → s.heap.objs.size ≠ c := fun z => Nat.ne_of_gt (Heap.lt_size z)
  have nit : s.heap.objs.size ≠ it := let ⟨_, z, _⟩ := a; lt z
  rcases c with ⟨old, c⟩ | ⟨old, T, f, oT, c, cT, r1, r2, r3⟩
  · exact wpAny_pyNext_enum_item c a b hx hne fun h' h1 h2 h3 h4 h5 => hQ h' _ _ ⟨h2, b.at fun o z => h5 _ o hl1 hl2 z, .inr ⟨_, _, false, _, h1, h3, lt c, nit, lt hS⟩⟩ h3 h5
  · exact wpAny_pyNext_enum_item_held c cT r1 r2 a b hx hne fun h' h1 h2 h3 h4 h5 => hQ h' _ _ ⟨h2, b.at fun o z => h5 _ o hl1 hl2 z, .inr ⟨_, T, true, oT, h1, h5 _ _ r1 r2 cT, r1, r2, r3⟩⟩ h3 h5
theorem none_left (hh : A.handled = none) {S i : Nat} {Q : Option Value → Shared → Prop} (st : EnSt s.heap e it l S items i) (hx : items[i]? = none)
    (hQ : ∀ h', Heap.ExtBut it s.heap h' → Q none { s with heap := h' }) : wpAny (model prog w) A (pyNext (.ref e)) Q E s := by
  obtain ⟨a, b, ⟨old, c⟩ | ⟨old, T, f, oT, c, cT, r1, r2, r3⟩⟩ := st
  · exact wpAny_pyNext_enum_end hh c a b hx hQ
  · exact wpAny_pyNext_enum_end_held hh c a b hx hQ
theorem loop {S : Addr} (hh : A.handled = none) (hne : e ≠ it) (hl1 : l ≠ e) (hl2 : l ≠ it) (hSe : S ≠ e) (hSi : S ≠ it) (hSl : l ≠ S) (hn : items.size ≤ sizeLine) (res : Value) {h₁ : Heap} {R : Result → Shared → Prop} (lo : Nat) (hlo : S < lo ∧ e < lo ∧ it < lo)
    (hR : ∀ h' tk acc c as, (∀ b o, b ≠ S → b ≠ e → b ≠ it → h₁.get? b = some o → h'.get? b = some o) → h'.get? S = some { cls := .type "list", dict := none, data := .seq acc c, slots := #[] } → as.length = items.size → Prs h' items as → (∀ a, a ∈ as → lo ≤ a) → as.Nodup →
      acc.toList = as.map Value.ref → R (.ok (.ret res)) { s with heap := h', toks := tk }) :
    ∀ (k i : Nat) (h : Heap) (tk c : Nat) (acc : Array Value) (as : List Addr), items.size - i = k → i ≤ items.size → EnSt h e it l S items i → (∀ b o, b ≠ S → b ≠ e → b ≠ it → h₁.get? b = some o → h.get? b = some o) →
      h.get? S = some { cls := .type "list", dict := none, data := .seq acc c, slots := #[] } → acc.toList = as.map Value.ref → as.length = i → Prs h items as → (∀ a, a ∈ as → lo ≤ a ∧ a < h.objs.size) → as.Nodup → lo ≤ h.objs.size →
      codeAny (model prog w) A (.builtin "list.extend.loop" ⟨[.ref S, .ref e, res], []⟩) R { s with heap := h, toks := tk } := by
  intro k
  induction k with
  | zero =>
    intro i h tk c acc as hk hi st hkeep hS hacc hal hP hab hnd hlo2
    have hin : i = items.size := by omega
    refine codeAny_builtin PySem.F.entry_extend_loop ?_; rw [Around.under_plainId PySem.F.plain_extend_loop _]; show wpAny _ A.in1 (pyNext (.ref e) >>= _) _ _ _
    refine wpAny_bind (none_left (s := { s with heap := h, toks := tk }) (A := A.in1) hh st (Array.getElem?_eq_none (by omega)) fun h' he => wpAny_pure (hR h' tk acc c as (fun b o h1 h2 h3 z => he b o h3 (hkeep b o h1 h2 h3 z)) (he S _ hSi hS) (by omega) (fun j a hj => ?_) (fun a ha => (hab a ha).1) hnd hacc))
    obtain ⟨v, t, e1, e2⟩ := hP j a hj
    have := (hab a (List.mem_of_getElem? hj)).1
    exact ⟨v, t, e1, he a _ (Nat.ne_of_gt (Nat.lt_of_lt_of_le hlo.2.2 this)) e2⟩
  | succ k ih =>
    intro i h tk c acc as hk hi st hkeep hS hacc hal hP hab hnd hlo2
    have hlt : i < items.size := by omega
    have hsz : acc.size = i := by (rw [← Array.length_toList, hacc, List.length_map, hal])
    refine codeAny_builtin PySem.F.entry_extend_loop ?_; rw [Around.under_plainId PySem.F.plain_extend_loop _]; show wpAny _ A.in1 (pyNext (.ref e) >>= _) _ _ _
    refine wpAny_bind (one (s := { s with heap := h, toks := tk }) (A := A.in1) hne hl1 hl2 st ⟨_, hS⟩ (Array.getElem?_eq_getElem hlt) fun h' tk2 tk3 st' ht hkp => ?_)
    dsimp only at ht hkp ⊢; have hS' := hkp S _ hSe hSi hS
    have up : ∀ b o, b ≠ S → h'.get? b = some o → (h'.update S (Obj.mapSeq (·.push (Value.ref h.objs.size)))).get? b = some o := fun b o hb z => by rw [Heap.get?_update_other _ _ (Ne.symm hb)]; exact z
    have hnew := up _ _ (Nat.ne_of_gt (Heap.lt_size hS)) ht
    have szl : h.objs.size < (h'.update S (Obj.mapSeq (·.push (Value.ref h.objs.size)))).objs.size := Heap.lt_size hnew
    refine (show wpAny (model prog w) A.in1 (updateSeq S (·.push (Value.ref h.objs.size)) >>= _) _ _ _ from wpAny_bind ?_)
    refine wpAny_updateSeq hS' rfl (wpAny_pure ⟨plainId_quiet PySem.F.plain_extend_loop _, ih (i + 1) _ tk3 _ (acc.push (Value.ref h.objs.size)) (as ++ [h.objs.size]) (by omega) hlt (st'.keep ⟨hSe.symm, hSi.symm, hSl⟩ up) (fun b o h1 h2 h3 z => up b o h1 (hkp b o h2 h3 (hkeep b o h1 h2 h3 z)))
      (Heap.get?_update_self _ hS' rfl) (by (rw [Array.toList_push, hacc, List.map_append]; rfl)) (by (rw [List.length_append, hal]; rfl)) ?_ ?_ ?_ (Nat.le_of_lt (Nat.lt_of_le_of_lt hlo2 szl))⟩) (by omega) (show (acc.push (Value.ref h.objs.size)).size ≤ sizeLine + 1 by rw [Array.size_push, hsz]; omega)
    · intro j a hj
      rcases Nat.lt_trichotomy j as.length with h1 | h1 | h1
      · rw [List.getElem?_append_left h1] at hj; obtain ⟨v, t, e1, e2⟩ := hP j a hj
        have := (hab a (List.mem_of_getElem? hj)).1
        exact ⟨v, t, e1, up a _ (Nat.ne_of_gt (Nat.lt_of_lt_of_le hlo.1 this)) (hkp a _ (Nat.ne_of_gt (Nat.lt_of_lt_of_le hlo.2.1 this)) (Nat.ne_of_gt (Nat.lt_of_lt_of_le hlo.2.2 this)) e2)⟩
      · subst h1; obtain rfl : h.objs.size = a := by simpa using hj
        exact ⟨_, tk2, by rw [hal]; exact Array.getElem?_eq_getElem hlt, by rw [hal]; exact hnew⟩
      · rw [List.getElem?_eq_none (by rw [List.length_append, List.length_singleton]; omega)] at hj; cases hj
    · intro a ha
      rcases List.mem_append.mp ha with ha | ha
      · exact ⟨(hab a ha).1, Nat.lt_trans (hab a ha).2 szl⟩
      · rw [List.mem_singleton.mp ha]; exact ⟨hlo2, szl⟩
    · refine List.nodup_append.mpr ⟨hnd, List.pairwise_singleton _ _, fun a ha b hb => ?_⟩
      have := (hab a ha).2
      rw [List.mem_singleton.mp hb]; exact Nat.ne_of_lt this
/-- tuple(e) -/
theorem collect_en {Q : List Value → Shared → Prop} (hh : A.handled = none) (hne : e ≠ it) (hl1 : l ≠ e) (hl2 : l ≠ it) (he : IsEnum s.heap e it 0 .none) (hit : s.heap.IsListIter it l 0) (hl : s.heap.IsList l items) (hn : items.size ≤ sizeLine)
    (hQ : ∀ h' tk as, (∀ b o, b ≠ e → b ≠ it → s.heap.get? b = some o → h'.get? b = some o) → as.length = items.size → Prs h' items as → (∀ a, a ∈ as → s.heap.objs.size < a) → as.Nodup → Q (as.map Value.ref) { s with heap := h', toks := tk }) : wpAny (model prog w) A (collect (.ref e)) Q E s := by
  have lt : ∀ {c o}, s.heap.get? c = some o → s.heap.objs.size ≠ c := fun z => Nat.ne_of_gt (Heap.lt_size z)
  have nSe := lt he
  have nSi : s.heap.objs.size ≠ it := let ⟨_, z, _⟩ := hit; lt z
  have nSl : s.heap.objs.size ≠ l := let ⟨_, z, _⟩ := hl; lt z
  have ite : it < s.heap.objs.size := let ⟨_, z, _⟩ := hit; Heap.lt_size z
  have ele := Heap.lt_size he
  unfold collect; refine wpAny_bind (wpAny_runValue (codeAny_builtin F.entry_proto_collect ?_)); rw [Around.under_plainId F.plain_proto_collect _]
  show wpAny _ A.in1 (newList [] >>= fun l' => again (.builtin "list.__iadd__" ⟨[l', .ref e], []⟩)) _ _ s; refine wpAny_bind (wpAny_newObj_type ?_)
  refine wpAny_pure ⟨plainId_quiet F.plain_list_iadd _, codeAny_builtin F.entry_list_iadd ?_⟩; rw [Around.under_plainId F.plain_list_iadd _]
  have k1 : ∀ b o, s.heap.get? b = some o → (s.heap.push { cls := .type "list", data := .seq ([] : List Value).toArray }).get? b = some o := fun b o z => Heap.get?_push_of_some _ z
  have st1 : EnSt (s.heap.push { cls := .type "list", data := .seq ([] : List Value).toArray }) e it l s.heap.objs.size items 0 := ⟨hit.at fun o z => k1 _ o z, hl.at fun o z => k1 _ o z, .inl ⟨_, k1 _ _ he⟩⟩
  have hT := st1.typeIs { s with heap := s.heap.push { cls := .type "list", data := .seq ([] : List Value).toArray } } rfl
  show wpAny _ A.in1 (Builtin.List.listExtendWith (.ref s.heap.objs.size) (.ref e) (.ref s.heap.objs.size)) _ _ _; unfold Builtin.List.listExtendWith; refine wpAny_bind (wpAny_typeOf hT ?_)
  have h1 : Builtin.List.listSameRef (.ref s.heap.objs.size) (.ref e) = false := by simp [Builtin.List.listSameRef, nSe]
  rw [if_neg (by rw [h1]; decide)]; refine wpAny_bind (wpAny_pyIter_enum (s := { s with heap := s.heap.push { cls := .type "list", data := .seq ([] : List Value).toArray } }) (k1 _ _ he) ?_); refine wpAny_bind (wpAny_holding ?_)
  unfold Builtin.List.listLengthHint; refine wpAny_bind (wpAny_specialOf hT no_len ?_); show wpAny _ A.in1 (specialOf (Value.ref e) (Str.ofString "__length_hint__") >>= _) _ _ _
  refine wpAny_bind (wpAny_specialOf hT no_hint ?_); refine wpAny_pure ?_
  show wpAny _ A.in1 (rule "list.extend.makes-room" >>= fun _ => Builtin.List.listTouch (.ref s.heap.objs.size) >>= fun _ => again (.builtin "list.extend.loop" ⟨[.ref s.heap.objs.size, .ref e, .ref s.heap.objs.size], []⟩)) _ _ _
  refine wpAny_bind (wpAny_rule ?_); have hS1 : (s.heap.push { cls := .type "list", data := .seq ([] : List Value).toArray }).get? s.heap.objs.size = some { cls := .type "list", data := .seq ([] : List Value).toArray } := Heap.get?_push_size _ rfl
  refine wpAny_bind ?_; show wpAny _ A.in1 (updateSeq s.heap.objs.size (·.push .none) >>= fun _ => updateSeq s.heap.objs.size (·.pop)) _ _ _; refine wpAny_bind (wpAny_updateSeq hS1 rfl ?_)
  have hS2 := Heap.get?_update_self (Obj.mapSeq (·.push Value.none)) hS1 rfl; refine wpAny_updateSeq hS2 rfl ?_; have hS3 := Heap.get?_update_self (Obj.mapSeq (·.pop)) hS2 rfl
  have oth : ∀ b o, b ≠ s.heap.objs.size → (s.heap.push { cls := .type "list", data := .seq ([] : List Value).toArray }).get? b = some o →
      (((s.heap.push { cls := .type "list", data := .seq ([] : List Value).toArray }).update s.heap.objs.size (Obj.mapSeq (·.push Value.none))).update s.heap.objs.size (Obj.mapSeq (·.pop))).get? b = some o := fun b o hb z => by rw [Heap.get?_update_other _ _ (Ne.symm hb), Heap.get?_update_other _ _ (Ne.symm hb)]; exact z
  have st3 := st1.keep ⟨nSe.symm, nSi.symm, nSl.symm⟩ oth
  have sz3 := Heap.lt_size hS3
  refine wpAny_pure ⟨plainId_quiet F.plain_extend_loop _, loop (h₁ := s.heap) hh hne hl1 hl2 nSe nSi nSl.symm hn _ (s.heap.objs.size + 1) ⟨Nat.lt_succ_self _, Nat.lt_succ_of_lt ele, Nat.lt_succ_of_lt ite⟩ (fun h' tk acc c as h1 h2 h3 h4 h5 h6 h7 => ?_) items.size 0 _ s.toks _ _ [] rfl (Nat.zero_le _) st3 (fun b o n1 n2 n3 z => oth b o n1 (k1 b o z)) hS3 rfl rfl (fun j a hj => by cases hj) (fun a ha => (nomatch ha)) .nil sz3⟩
  show wpAny _ A (load s.heap.objs.size >>= _) _ _ _; refine wpAny_bind (wpAny_load h2 ?_)
  refine wpAny_pure ?_
  show Q acc.toList _
  rw [h7]
  exact hQ h' tk as (fun b o n1 n2 z => h1 b o (Ne.symm (lt z)) n1 n2 z) h3 h4 (fun a ha => h5 a ha) h6
theorem new_en {Q₁ : Value → Shared → Prop} (hh : A.handled = none) (hne : e ≠ it) (hl1 : l ≠ e) (hl2 : l ≠ it) (he : IsEnum s.heap e it 0 .none) (hit : s.heap.IsListIter it l 0) (hl : s.heap.IsList l items) (hn : items.size ≤ sizeLine)
    (hQ : ∀ h' tk as, (∀ b o, b ≠ e → b ≠ it → s.heap.get? b = some o → h'.get? b = some o) → as.length = items.size → Prs h' items as → (∀ a, a ∈ as → s.heap.objs.size < a) → as.Nodup →
      Q₁ (.ref h'.objs.size) { s with heap := h'.push { cls := .type "tuple", data := .seq (as.map Value.ref).toArray }, toks := tk }) : codeAny (model prog w) A (.call (.builtin "tuple.__new__") ⟨[.type "tuple", .ref e], []⟩) (wants Q₁ E) s := by
  refine codeAny_of_tree (show wpAny _ A.in1 (do checkBuiltinCall "tuple.__new__" ⟨[.type "tuple", .ref e], []⟩; again (.builtin "tuple.__new__" ⟨[.type "tuple", .ref e], []⟩)) _ _ s from ?_)
  refine wpAny_bind (wpAny_of_eq (F.newCall_tuple_1 _) (wpAny_pure ⟨plainId_quiet F.plain_tuple_new _, codeAny_builtin F.entry_tuple_new ?_⟩)); rw [Around.under_plainId F.plain_tuple_new _]
  have hsub := sub_tuple_self; have hinit := init_tuple_lookup; have hmh := madeHere_tuple
  have hTI : s.TypeIs (.ref e) "enumerate" := ⟨_, he, rfl⟩
  have hh1 : A.in1.handled = none := hh
  wp_walk using wpAny_typeOf hTI, collect_en (A := A.in1) hh1 hne hl1 hl2 he hit hl hn
  intro h' tk as h1 h2 h3 h4 h5
  show wpAny _ _ (Builtin.Tuple.tupleExact (as.map Value.ref).toArray >>= fun v => ret v) _ _ _; unfold Builtin.Tuple.tupleExact
  refine wpAny_bind (wpAny_newObj_type (wpAny_pure (hQ h' tk as h1 h2 h3 h4 h5)) (show (as.map Value.ref).toArray.size ≤ sizeLine by rw [List.size_toArray, List.length_map, h2]; exact hn))
theorem call_en {Q : Value → Shared → Prop} (hh : A.handled = none) (hne : e ≠ it) (hl1 : l ≠ e) (hl2 : l ≠ it) (he : IsEnum s.heap e it 0 .none) (hit : s.heap.IsListIter it l 0) (hl : s.heap.IsList l items) (hn : items.size ≤ sizeLine)
    (hQ : ∀ h' tk as, (∀ b o, b ≠ e → b ≠ it → s.heap.get? b = some o → h'.get? b = some o) → as.length = items.size → Prs h' items as → (∀ a, a ∈ as → s.heap.objs.size < a) → as.Nodup →
      Q (.ref h'.objs.size) { s with heap := h'.push { cls := .type "tuple", data := .seq (as.map Value.ref).toArray }, toks := tk }) : wpAny (model prog w) A (call (.type "tuple") [.ref e]) Q E s := by
  refine callType_codes (Q₁ := fun obj s₁ => s₁.TypeIs obj "tuple" ∧ Q obj s₁) F.called_tuple (F.typeCall_tuple_1 _) F.entry_object_init (new_en (A := A.in1) hh hne hl1 hl2 he hit hl hn fun h' tk as h1 h2 h3 h4 h5 => ⟨⟨_, Heap.get?_push_size _ rfl, rfl⟩, hQ h' tk as h1 h2 h3 h4 h5⟩) fun obj s₁ h₁ => ⟨h₁.1, F.args_object_init_2 obj _, object_init_meets F.called_tuple.init.lookup F.called_tuple.made (by decide) prog w A.in1 _ s₁ ⟨h₁.1, rfl, h₁.2⟩⟩
end
end ET

namespace ET
open PySem PySem.Spec PyProof.Rows L2
/-- the pairs tracked at their addresses, counted from n on -/
def putE : Hp → List Addr → List V → Nat → Hp
  | H, a :: as, x :: xs, n => putE (upd H a (.tup [.int (n : Int), x])) as xs (n + 1)
  | H, _, _, _ => H
theorem putE_off {b : Addr} : ∀ (as : List Addr) (xs : List V) (n : Nat) (H : Hp), b ∉ as → putE H as xs n b = H b
  | [], _, _, _, _ => rfl
  | _ :: _, [], _, _, _ => rfl
  | a :: as, x :: xs, n, H, h => by
    have ih := putE_off as xs (n + 1) (upd H a (.tup [.int (n : Int), x])) fun z => h (List.mem_cons_of_mem _ z)
    have hb : b ≠ a := fun z => h (by rw [z]; exact List.mem_cons_self)
    show putE (upd H a (.tup [.int (n : Int), x])) as xs (n + 1) b = H b
    rw [ih, upd_ne hb]
theorem putE_at : ∀ (as : List Addr) (xs : List V) (n : Nat) (H : Hp), as.length = xs.length → as.Nodup → ∀ (j : Nat) (a : Addr) (x : V), as[j]? = some a → xs[j]? = some x → putE H as xs n a = some (.tup [.int ((n + j : Nat) : Int), x])
  | [], _, _, _, _, _, j, a, x, h, _ => by cases h
  | b :: as, [], _, _, h, _, _, _, _, _, _ => by cases h
  | b :: as, y :: xs, n, H, hl, hn, j, a, x, h1, h2 => by
    have hn' := List.nodup_cons.mp hn
    cases j with
    | zero =>
      cases h1
      cases h2
      show putE (upd H b (.tup [.int (n : Int), y])) as xs (n + 1) b = _
      rw [putE_off as xs _ _ hn'.1, upd_same]
      rfl
    | succ j =>
      have ih := putE_at as xs (n + 1) (upd H b (.tup [.int (n : Int), y])) (Nat.succ.inj hl) hn'.2 j a x h1 h2
      rw [show n + (j + 1) = n + 1 + j by omega]
      exact ih
/-- tuple(enumerate(e)), a list: a new tuple of new pairs -/
def tTupEn (K : PySem.W.Frag) (te : TE) : TE := fun σ H Q => te σ H fun v H1 => ∃ (a : Addr) (xs : List V), v = .ref a ∧ SqL K H1 a xs ∧
  ∀ (q : Addr) (rs : List Addr) (H2 : Hp), Same H1 H2 → SC.TupF H2 q (rs.map V.ref) → rs.length = xs.length → (∀ (j : Nat) (r : Addr) (x : V), rs[j]? = some r → xs[j]? = some x → H2 r = some (.tup [.int (j : Int), x])) → Q (.ref q) H2
section
variable {X : Cx} {pins : List (Addr × Obj)} {σ : L2.St} {H : Hp} {s : Shared}
theorem laid_en {h' : Heap} {tk : Nat} {xs : List V} {its : List Value} {as : List Addr} (I : Inv X pins σ H s) (hz : xs.length ≤ sizeLine) (rv : Vals xs its) (hk : ∀ b o, s.heap.get? b = some o → h'.get? b = some o) (hl : as.length = its.length) (hP : Prs h' its.toArray as) (hab : ∀ a, a ∈ as → s.heap.objs.size ≤ a) (nd : as.Nodup) :
    ∃ H' : Hp, Same H H' ∧ (∀ (j : Nat) (r : Addr) (x : V), as[j]? = some r → xs[j]? = some x → H' r = some (.tup [.int (j : Int), x])) ∧ Inv X pins σ H' { s with heap := h', toks := tk } := by
  have lx : as.length = xs.length := hl.trans rv.length.symm
  have new : ∀ t ∈ as, H t = none := fun t ht => I.hok.fresh (hab t ht)
  have off : ∀ b, b ∉ as → putE H as xs 0 b = H b := fun b h1 => putE_off as xs 0 H h1
  have kp : ∀ b u, H b = some u → putE H as xs 0 b = some u := fun b u e => by
    rw [off b (fun z => by rw [new b z] at e; cases e)]; exact e
  have atP : ∀ (j : Nat) (r : Addr) (x : V), as[j]? = some r → xs[j]? = some x → putE H as xs 0 r = some (.tup [.int (j : Int), x]) := fun j r x h1 h2 => by
    have := putE_at as xs 0 H lx nd j r x h1 h2
    rwa [Nat.zero_add] at this
  refine ⟨putE H as xs 0, kp, atP, ?_⟩
  refine I.call' (ch := []) rfl ⟨fun b o q _ _ _ => hk b o q, fun b o q _ _ _ => ⟨o.slots, hk b o q⟩, fun b o q n _ => by rw [off b (fun z => absurd (Heap.lt_size q) (Nat.not_lt.mpr (hab b z)))]; exact n, fun b o q _ => ⟨o, hk b o q⟩, fun b xs q => kp b _ q, fun b o u q => kp b _ q, fun b ps q => ⟨#[], by rw [kp b _ q]; simp⟩⟩ (fun b u q => ?_) I.bare fun b z => by simp at z
  by_cases hb : b ∈ as
  · obtain ⟨j, hj, e1⟩ := List.mem_iff_getElem.mp hb
    have e1' : as[j]? = some b := by rw [List.getElem?_eq_getElem hj, e1]
    have hjx : j < xs.length := by omega
    have e3 := atP j b _ e1' (List.getElem?_eq_getElem hjx)
    rw [e3] at q; cases q
    obtain ⟨v, t, f1, f2⟩ := hP j b e1'
    obtain ⟨u, g1, g2⟩ := rv.get (List.getElem?_eq_getElem hjx)
    have : v = u := by
      have f1' : its[j]? = some v := by simpa using f1
      rw [g1] at f1'
      exact (Option.some.inj f1').symm
    subst this
    exact ⟨by show 2 ≤ sizeLine; decide, [.int j t, v], .cons ⟨t, rfl⟩ (.cons g2 .nil), ⟨_, f2, rfl, _, rfl⟩⟩
  · rw [off b hb] at q
    exact (I.hok b u q).stay (fun d v _ y => hk d v y) (fun d y => kp d _ y) fun d xs y => kp d _ y
theorem refs_rel : ∀ as : List Addr, Vals (as.map V.ref) (as.map Value.ref)
  | [] => .nil
  | a :: as => .cons rfl (refs_rel as)
theorem pe_tupEn {e : Expr} {te : TE} {p p2 pos pos2 : Pos} (hc : X.calm = true) (hg : Gl X "tuple") (hm : X.mg "tuple" = none) (hg2 : Gl X "enumerate") (hm2 : X.mg "enumerate" = none) (he : PE X e te)
    (hs : starEach [e] X.env = (false, eval e X.env) :: starEach [] X.env := by rfl)
    (hs2 : starEach [.Call (.Name "enumerate" p2) [e] [] pos2] X.env = (false, eval (.Call (.Name "enumerate" p2) [e] [] pos2) X.env) :: starEach [] X.env := by rfl) :
    PE X (.Call (.Name "tuple" p) [.Call (.Name "enumerate" p2) [e] [] pos2] [] pos) (tTupEn X.K te) := by
  refine ⟨fun pins s σ H Q I h => ?_⟩
  refine Call_ (ld_blt I hg hm boot_tuple (PyProof.Rows.callWith_type1 (args_cons (Call_ (ld_blt I hg2 hm2 PyProof.Rows.boot_enumerate (PyProof.Rows.callWith_type1 (args_cons (thn (he.run pins s σ H _ I h) fun u s1 ⟨v, H1, I1, r1, a, xs, ev, hq, q⟩ => args_nil ?_) hs) hs rfl))) hs2) hs2 rfl))
  subst ev
  obtain rfl : u = Value.ref a := r1
  obtain ⟨its, rv, p', hz⟩ := I1.list hq
  have hl := p'.isList
  refine call_enumerate_list hl fun h1 hen hit hsz hk1 => args_nil ?_
  have I2 : Inv X pins σ H1 { s1 with heap := h1 } := I1.kept (t' := s1.toks) hk1
  have la : a < s1.heap.objs.size := let ⟨_, z, _⟩ := hl; Heap.lt_size z
  have hl1 : h1.IsList a its.toArray := hl.at fun o z => hk1 _ o z
  have hn : its.toArray.size ≤ sizeLine := by rw [List.size_toArray, ← rv.length]; exact hz
  refine call_en (s := { s1 with heap := h1 }) (I1.ok.hd hc) (Nat.ne_of_gt (Nat.lt_succ_self _)) (Nat.ne_of_lt (Nat.lt_succ_of_lt la)) (Nat.ne_of_lt la) hen hit hl1 hn fun h2 tk as k2 l2 P2 ab2 nd2 => ?_
  have k12 : ∀ b o, s1.heap.get? b = some o → h2.get? b = some o := fun b o z => k2 b o (Nat.ne_of_lt (Nat.lt_succ_of_lt (Heap.lt_size z))) (Nat.ne_of_lt (Heap.lt_size z)) (hk1 b o z)
  obtain ⟨H2, sm, at2, I3⟩ := laid_en (tk := tk) I1 hz rv k12 (by rw [l2, List.size_toArray]) P2 (fun b hb => by have := ab2 b hb; have e : ({ s1 with heap := h1 } : Shared).heap.objs.size = s1.heap.objs.size + 2 := hsz; exact Nat.le_of_lt (Nat.lt_of_le_of_lt (by rw [e]; exact Nat.le_add_right _ _) this)) nd2
  have hrl : as.length = xs.length := by rw [l2, List.size_toArray, rv.length]
  have nq : H2 h2.objs.size = none := I3.hok.fresh (Nat.le_refl _)
  have sq := (fun b x z => by rw [upd_ne (ne_of_none z nq)]; exact z : Same H2 (upd H2 h2.objs.size (.frz { cls := .type "tuple", data := .seq (as.map Value.ref).toArray } (.tup (as.map V.ref)))))
  refine ⟨.ref h2.objs.size, upd H2 h2.objs.size (.frz { cls := .type "tuple", data := .seq (as.map Value.ref).toArray } (.tup (as.map V.ref))), I3.laid (t' := tk) (fun c o z => Heap.get?_push_of_some _ z) (Nat.le_refl _) (show ObjOk X.prog X.w _ _ _ (.frz _ (.tup (as.map V.ref))) from ⟨Heap.get?_push_size _ rfl, by rw [List.length_map, hrl]; exact hz, as.map Value.ref, refs_rel as, IsTup.new _ _⟩), rfl, q _ as _ (fun b x z => sq _ _ (sm _ _ z)) ⟨_, upd_same, rfl⟩ hrl fun j r x z1 z2 => sq _ _ (at2 j r x z1 z2)⟩
end
end ET

namespace L16
open PySem PySem.Spec PyProof.Rows L2 GR
/-- the transactions T stand in the heap -/
def Tr (K : PySem.W.Frag) (H : Hp) (T : List (Addr × List St1)) : Prop := (∀ t, t ∈ T → H t.1 = some (.tup (t.2.map (·.1))) ∧ t.2.length ≤ 6 ∧ ∀ s, s ∈ t.2 → SV K H s.1 s.2) ∧ T.length ≤ 5
theorem Tr.keep {K : PySem.W.Frag} {H H' : Hp} {T : List (Addr × List St1)} (h : Tr K H T) (k : KeepT H H') : Tr K H' T :=
  ⟨fun t ht => ⟨k.1 _ _ (h.1 t ht).1, (h.1 t ht).2.1, fun s hs => ((h.1 t ht).2.2 s hs).keep k⟩, h.2⟩
structure Lo (H0 : Hp) (mb sb : Addr) (ms : List Int) (sts : List St1) (H : Hp) : Prop where
  hm : H mb = some (.lst (ms.map V.int))
  hs : H sb = some (.lst (sts.map (·.1)))
  old : ∀ b ob, b ≠ mb → b ≠ sb → H0 b = some ob → H b = some ob
theorem Lo.kt {H0 H : Hp} {mb sb : Addr} {ms : List Int} {sts : List St1} (t : Lo H0 mb sb ms sts H) (nm : H0 mb = none) (ns : H0 sb = none) : KeepT H0 H :=
  ⟨fun b xs e => t.old b _ (ne_of_none e nm) (ne_of_none e ns) e, fun b o xs e => t.old b _ (ne_of_none e nm) (ne_of_none e ns) e⟩
theorem ens_of {K : PySem.W.Frag} {H : Hp} : ∀ (rs : List Addr) (sts : List St1) (n : Nat), rs.length = sts.length → (∀ (j : Nat) (r : Addr) (s : St1), rs[j]? = some r → sts[j]? = some s → H r = some (.tup [.int ((n + j : Nat) : Int), s.1]) ∧ SV K H s.1 s.2) → EnsOk K H rs (entN n sts)
  | [], [], _, _, _ => .nil
  | [], _ :: _, _, h, _ => by cases h
  | _ :: _, [], _, h, _ => by cases h
  | r :: rs, s :: sts, n, hl, h => by
    refine .cons (h 0 r s rfl rfl) (ens_of rs sts (n + 1) (Nat.succ.inj hl) fun j r' s' e1 e2 => ?_)
    have := h (j + 1) r' s' (by simpa using e1) (by simpa using e2)
    rwa [show n + (j + 1) = n + 1 + j by omega] at this
section
variable {P : Program} {w : World} {K : PySem.W.Frag} {mg : Str → Option Value} {base : Heap}
abbrev s_log_of : Stmt := topS 1
abbrev N_lo : List Str := ["transactions", "marks", "statements", "transaction"]
theorem sc_log_of : FnScope N_lo ["transactions"] (defScope s_log_of) := ⟨rfl, rfl, rfl, by decide +kernel, rfl, by decide +kernel, by decide +kernel⟩
def sp_logof (K : PySem.W.Frag) : Sp := fun vs H Q _ => ∃ T : List (Addr × List St1), vs = T.map (fun t => V.ref t.1) ∧ Tr K H T ∧ ∀ H' p, Same H H' → LgF K H' p (0 :: mks 0 (T.map (·.2))) (entN 0 (T.map (·.2)).flatten) → Q (.ref p) H'
def sp_lo (K : PySem.W.Frag) : Sp := fun vs H Q _ => ∃ (so : Addr) (T : List (Addr × List St1)), vs = [.ref so] ∧ H so = some (.tup (T.map fun t => V.ref t.1)) ∧ Tr K H T ∧ ∀ H' p, Same H H' → LgF K H' p (0 :: mks 0 (T.map (·.2))) (entN 0 (T.map (·.2)).flatten) → Q (.ref p) H'
theorem ok_log_of {f : Addr} {fd : FuncData} {k : Nat} (F : Fun K "log_of" "log_of" s_log_of f fd) (mlen : mg "len" = none) (mtuple : mg "tuple" = none) (menum : mg "enumerate" = none) : FnR P w K mg base CX0 (k + 1) f (sp_logof K) := by
  have nd := sc_log_of.nd
  obtain ⟨oc, od, kV, doc, pm, an, cdv, ct, osl, rfl, lk, hcd⟩ := F.ex
  refine FnR.imp (StX.fn_star (ps := []) (pv := "transactions") (sp := sp_lo K) lk hcd sc_log_of StX.cxUp_none (fun us rest hl => ?_) fun A outer s H vs Q E hr h => ?_) fun vs H Q E h => ?_
  · cases us with
    | nil => cases rest <;> rfl
    | cons => cases hl
  · obtain ⟨so, T, rfl, hso, hT, q⟩ := h
    refine ⟨_, PSs.nox (pss_cons (ps_set (i := 1) nd rfl (.inl rfl) (pe_lst (pa_cons pe_int pa_nil)))
      (pss_cons (ps_set (i := 2) nd rfl (.inl rfl) (pe_lst pa_nil))
      (pss_cons (ps_for PassesOwn.never rfl (pi_tup (pv 0)) (pg_name (i := 3) nd rfl (Or.inl rfl))
      (pss_cons (ps_expr (pe_bm PySem.F.plainAttrs_list PySem.F.slot_list_extend PySem.F.type_list_extend WX.mt_extendT (pv 2) (pa_cons (pv 3) pa_nil)))
        (pss_one (ps_expr (pe_bm PySem.F.plainAttrs_list PySem.F.slot_list_append PySem.F.type_list_append mt_append (pv 1) (pa_cons (pe_callB call_len_seq (by rfl) mlen PySem.boot_len (pa_cons (pv 2) pa_nil)) pa_nil))))))
      (pss_one (ps_ret (pe_tup (pa_cons (pe_callTy call_tuple_of (by rfl) mtuple boot_tuple (pa_cons (pv 1) pa_nil)) (pa_cons (ET.pe_tupEn rfl (by rfl) mtuple (by rfl) menum (pv 2)) pa_nil)))))))), ?_⟩
    refine ⟨h1000 (show 1 ≤ 1000 by decide), fun mb nmb => ⟨Nat.zero_le _, fun sb nsb => ?_⟩⟩
    have s1 := same_upd (o := .lst [.int 0]) nmb
    have s2 := same_upd (o := .lst []) nsb
    have nsH : H sb = none := s1.free nsb
    have hml : mb ≠ sb := ne_of_none (show upd H mb (.lst [.int 0]) mb = some (.lst [.int 0]) from upd_same) nsb
    have L1 : Lo H mb sb (0 :: mks 0 []) [] (upd (upd H mb (.lst [.int 0])) sb (.lst [])) := ⟨s2 _ _ upd_same, upd_same, fun b ob n1 n2 e => (s1.trans s2) _ _ e⟩
    have hsm : so ≠ mb := ne_of_none hso nmb
    have hss : so ≠ sb := ne_of_none hso nsH
    revert L1
    generalize upd (upd H mb (.lst [.int 0])) sb (.lst []) = H1
    intro L1
    refine ⟨.ref so, rfl, so, rfl, ⟨_, .inl (.inl (L1.old _ _ hsm hss hso))⟩, ?_⟩
    refine for_tup (xs := T.map fun t => V.ref t.1) (fun i σ H' => ∃ y3, σ = [some (.ref so), some (.ref mb), some (.ref sb), y3] ∧ Lo H mb sb (0 :: mks 0 ((T.map (·.2)).take i)) ((T.map (·.2)).take i).flatten H') ?_ ?_ ?_ ?_
    · exact ⟨none, rfl, L1⟩
    · rintro i σ H' _ ⟨_, rfl, L⟩
      exact .inl (.inl (L.old _ _ hsm hss hso))
    · rintro i x σ H2 hx ⟨y3, rfl, L2⟩
      rw [List.getElem?_map] at hx
      obtain ⟨t, ht, rfl⟩ := Option.map_eq_some_iff.mp hx
      have htm := List.mem_of_getElem? ht
      have ht2 : (T.map (·.2))[i]? = some t.2 := by rw [List.getElem?_map, ht]; rfl
      have hi : i < T.length := (List.getElem?_eq_some_iff.mp ht).1
      have hT5 := hT.2
      have hfl : ((T.map (·.2)).take i).flatten.length ≤ 24 := by
        have := flat_len (T := (T.map (·.2)).take i) (b := 6) fun y hy => by
          obtain ⟨t', ht', rfl⟩ := List.mem_map.mp (List.mem_of_mem_take hy)
          exact (hT.1 t' ht').2.1
        rw [List.length_take, List.length_map] at this
        omega
      have ht6 := (hT.1 t htm).2.1
      have htH := (L2.kt nmb nsH).1 _ _ (hT.1 t htm).1
      have e1 : (T.map (·.2)).take (i + 1) = (T.map (·.2)).take i ++ [t.2] := take_next ht2
      refine ⟨.ref sb, rfl, .inl ⟨rfl, _, .inl (.inl L2.hs)⟩, .ref t.1, rfl, sb, t.1, _, _, rfl, rfl, L2.hs, .inl (.inl htH), ?_, ?_⟩
      · rw [List.length_map, List.length_map]
        exact Nat.le_of_lt (small1000 (by omega))
      have hs3 : upd H2 sb (.lst ((((T.map (·.2)).take i).flatten).map (·.1) ++ t.2.map (·.1))) sb = some (.lst ((((T.map (·.2)).take (i + 1)).flatten).map (·.1))) := by
        rw [e1, List.flatten_append, List.flatten_singleton, List.map_append]
        exact upd_same
      have hm3 : upd H2 sb (.lst ((((T.map (·.2)).take i).flatten).map (·.1) ++ t.2.map (·.1))) mb = some (.lst ((0 :: mks 0 ((T.map (·.2)).take i)).map V.int)) := by
        rw [upd_ne hml]; exact L2.hm
      have old3 : ∀ b ob, b ≠ mb → b ≠ sb → H b = some ob → upd H2 sb (.lst ((((T.map (·.2)).take i).flatten).map (·.1) ++ t.2.map (·.1))) b = some ob := fun b ob n1 n2 e => by rw [upd_ne n2]; exact L2.old b ob n1 n2 e
      dsimp only at hs3 hm3 old3 ⊢
      revert hs3 hm3 old3
      generalize upd H2 sb (.lst ((((T.map (·.2)).take i).flatten).map (·.1) ++ t.2.map (·.1))) = H3
      intro hs3 hm3 old3
      refine ⟨.ref mb, rfl, .inl ⟨rfl, _, .inl (.inl hm3)⟩, .ref sb, rfl, sb, _, rfl, .inl (.inl (.inl hs3)), mb, _, _, rfl, rfl, hm3, small1000 (by rw [List.length_map, List.length_cons, mks_len, List.length_take, List.length_map]; omega), ?_⟩
      refine ⟨_, rfl, ?_, ?_, fun b ob n1 n2 e => by rw [upd_ne n1]; exact old3 b ob n1 n2 e⟩
      · rw [upd_same, e1, mks_append, List.length_map, List.flatten_append, List.flatten_singleton, List.length_append, Nat.zero_add, ← List.cons_append, List.map_append]
        rfl
      · rw [upd_ne hml.symm]; exact hs3
    · rintro σ H2 ⟨y3, rfl, L2⟩
      rw [List.length_map] at L2
      have e1 : (T.map (·.2)).take T.length = T.map (·.2) := by rw [← List.length_map (as := T) (·.2), List.take_length]
      rw [e1] at L2
      refine ⟨.ref mb, rfl, mb, _, rfl, .inl ⟨.inl (.inl L2.hm), fun mp nmp => ?_⟩⟩
      have s3 := same_upd (o := .tup ((0 :: mks 0 (T.map (·.2))).map V.int)) nmp
      refine ⟨.ref sb, rfl, sb, _, rfl, .inl (.inl (s3 _ _ L2.hs)), fun ep rs H3 s4 hep hrl hat => ⟨h1000 (show 2 ≤ 1000 by decide), fun p np => ?_⟩⟩
      have s5 := same_upd (o := .tup [.ref mp, .ref ep]) np
      have sAll : Same H2 (upd H3 p (.tup [.ref mp, .ref ep])) := (s3.trans s4).trans s5
      have kAll : KeepT H (upd H3 p (.tup [.ref mp, .ref ep])) := (L2.kt nmb nsH).trans (KeepT.of sAll)
      refine q _ p (fun b ob e => sAll _ _ (L2.old b ob (ne_of_none e nmb) (ne_of_none e nsH) e)) ⟨mp, ep, rs, upd_same, (s4.trans s5) _ _ upd_same, tupF_keep hep (KeepT.of s5), ens_of rs _ 0 (by rw [hrl, List.length_map]) fun j r s' z1 z2 => ⟨?_, ?_⟩⟩
      · rw [Nat.zero_add]
        exact s5 _ _ (hat j r s'.1 z1 (by rw [List.getElem?_map, z2]; rfl))
      · obtain ⟨t2, h2, h3⟩ := List.mem_flatten.mp (List.mem_of_getElem? z2)
        obtain ⟨t, ht, rfl⟩ := List.mem_map.mp h2
        exact ((hT.1 t ht).2.2 s' h3).keep kAll
  · obtain ⟨T, rfl, hT, q⟩ := h
    refine ⟨[], _, rfl, rfl, ?_, fun p np => ⟨p, T, rfl, upd_same, hT.keep (KeepT.of (same_upd np)), fun H' p' s' L => q H' p' ((same_upd np).trans s') L⟩⟩
    rw [List.length_map]
    exact Nat.le_of_lt (small1000 (Nat.le_trans hT.2 (by decide)))
end
end L16

namespace L16
open PySem PySem.Spec PyProof.Rows L2 GR
/-! ### what stands where -/
/-- the statement at a place -/
def stAt : List En → Int → V
  | [], _ => .non
  | e :: es, p => if e.1 = p then e.2.1 else stAt es p
theorem ens_get {K : PySem.W.Frag} {H : Hp} : ∀ {rs : List Addr} {es : List En}, EnsOk K H rs es → ∀ {i : Nat} {e : En}, es[i]? = some e → ∃ r, rs[i]? = some r ∧ EnOk K H r e
  | _, _, .nil, i, e, h => by simp at h
  | _, _, .cons (a := r) h t, 0, e, h' => by cases h'; exact ⟨r, rfl, h⟩
  | _, _, .cons h t, i + 1, e, h' => by
    obtain ⟨r, h1, h2⟩ := ens_get t (by simpa using h')
    exact ⟨r, by simpa using h1, h2⟩
theorem ens_at {K : PySem.W.Frag} {H : Hp} : ∀ {rs : List Addr} {es : List En}, EnsOk K H rs es → ∀ {i : Nat} {r : Addr}, rs[i]? = some r → ∃ e, es[i]? = some e ∧ EnOk K H r e
  | _, _, .nil, i, e, h => by simp at h
  | _, _, .cons (b := e) h t, 0, r, h' => by cases h'; exact ⟨e, rfl, h⟩
  | _, _, .cons h t, i + 1, r, h' => by
    obtain ⟨e, h1, h2⟩ := ens_at t (by simpa using h')
    exact ⟨e, by simpa using h1, h2⟩
theorem drop_at {α : Type} {l : List α} {i : Nat} {x : α} (h : l[i]? = some x) : l.drop i = x :: l.drop (i + 1) := by
  obtain ⟨hi, e⟩ := List.getElem?_eq_some_iff.mp h
  rw [List.drop_eq_getElem_cons hi, e]
section
variable {P : Program} {w : World} {K : PySem.W.Frag} {mg : Str → Option Value} {base : Heap}
abbrev s_statement_at : Stmt := topS 2
abbrev N_sat : List Str := ["log", "position", "place", "statement"]
theorem sc_statement_at : FnScope N_sat ["log", "position"] (defScope s_statement_at) := ⟨rfl, rfl, rfl, by decide +kernel, rfl, by decide +kernel, by decide +kernel⟩
def sp_sat (K : PySem.W.Frag) : Sp := fun vs H Q _ => ∃ (p : Addr) (n : Int) (ms : List Int) (es : List En), vs = [.ref p, .int n] ∧ Lg K H p ms es ∧ Q (stAt es n) H
theorem ok_statement_at {f : Addr} {fd : FuncData} {k : Nat} (F : Fun K "statement_at" "statement_at" s_statement_at f fd) : FnOk P w K mg base CX0 (k + 1) f fd ["log", "position"] (sp_sat K) := by
  have nd := sc_statement_at.nd
  refine F.ok sc_statement_at (fun vs H Q E h => ?_) (fun cdv A outer s H vs Q E hr h => ?_)
  · obtain ⟨p, n, ms, es, rfl, _⟩ := h
    rfl
  obtain ⟨p, n, ms, es, rfl, ⟨mp, ep, rs, h1, h2, h3, h4⟩, q⟩ := h
  refine ⟨_, (pss_cons (ps_for PassesOwn.never rfl (pi_tup (pe_ix ix_tup (pv 0) pe_int (fun _ _ => rfl))) (pg_tup rfl (pgs_cons (pg_name (i := 2) nd rfl (Or.inl rfl)) (pgs_cons (pg_name (i := 3) nd rfl (Or.inl rfl)) pgs_nil)))
      (pss_one (ps_if (pt_cmpR op_eq (pv 2) (pv 1) (nomark _))
        (pss_one (ps_ret (pv 3)))
        pss_nil)))
      (pss_one (ps_ret pe_non))), ?_⟩
  refine ⟨.ref p, rfl, p, _, 1, .ref ep, rfl, rfl, .inl (.inl h1), rfl, ep, rfl, ⟨_, .inl h3⟩, ?_⟩
  have hl := ens_len h4
  refine for_tup (xs := rs.map V.ref) (fun i σ H' => H' = H ∧ ∃ y2 y3, σ = [some (.ref p), some (.int n), y2, y3] ∧ stAt es n = stAt (es.drop i) n) ?_ ?_ ?_ ?_
  · exact ⟨rfl, none, none, rfl, rfl⟩
  · rintro i σ H' _ ⟨rfl, _⟩
    exact .inl h3
  · rintro i x σ H' hx ⟨rfl, y2, y3, rfl, hst⟩
    rw [List.getElem?_map] at hx
    obtain ⟨r, hr', rfl⟩ := Option.map_eq_some_iff.mp hx
    obtain ⟨e, he, h5⟩ := ens_at h4 hr'
    rw [drop_at he] at hst
    refine ⟨r, _, rfl, .inl (.inl h5.1), rfl, _, _, rfl, _, _, rfl, rfl, ?_⟩
    refine ⟨.int e.1, rfl, .int n, rfl, rfl, _, rfl, ?_⟩
    rw [dec_int]
    rw [stAt] at hst
    by_cases hc : e.1 = n
    · rw [if_pos hc] at hst
      rw [hc, beq_self_eq_true]
      refine iteT ⟨e.2.1, rfl, ?_⟩
      rw [← hst]
      exact q
    · rw [if_neg hc] at hst
      rw [show (e.1 == n) = false from beq_eq_false_iff_ne.mpr hc]
      exact iteF ⟨rfl, _, _, rfl, hst⟩
  · rintro σ H' ⟨rfl, y2, y3, rfl, hst⟩
    rw [List.length_map, hl, List.drop_length] at hst
    show Q .non H'
    have e : stAt es n = .non := hst
    rw [← e]
    exact q
end
/-! ### lets -/
/-- the variable that a statement lets -/
def leto (H : Hp) (v : V) : Option Str := match v with
  | .ref p => (match H p with
    | some (.tup (.str w :: .str z :: _)) => if w = "let" then some z else none
    | _ => none)
  | _ => none
def letsOf (H : Hp) (lo hi : Int) : List En → List (Key × V)
  | [] => []
  | e :: es => if lo ≤ e.1 ∧ e.1 < hi then (match leto H e.2.1 with
    | some z => (.inr z, .int e.1) :: letsOf H lo hi es
    | none => letsOf H lo hi es) else letsOf H lo hi es
theorem sv_lets {K : PySem.W.Frag} {H : Hp} {v : V} {x : PyData} (h : SV K H v x) : ∃ (p : Addr) (w : Str) (v1 : V) (vs : List V), v = .ref p ∧ H p = some (.tup (.str w :: v1 :: vs)) ∧
    ((w = "let" ∧ ∃ z, v1 = .str z ∧ Nm z ∧ leto H v = some z) ∨ (w ≠ "let" ∧ leto H v = none)) := by
  obtain ⟨p, w, v1, vs, rfl, h1, h2, _⟩ := h
  refine ⟨p, w, v1, vs, rfl, h1, ?_⟩
  by_cases hw : w = "let"
  · obtain ⟨z, rfl, hz⟩ := h2 hw
    refine .inl ⟨hw, z, rfl, hz, ?_⟩
    show (match H p with | some (.tup (.str w :: .str z :: _)) => if w = "let" then some z else none | _ => none) = _
    rw [h1]
    exact if_pos hw
  · refine .inr ⟨hw, ?_⟩
    show (match H p with | some (.tup (.str w :: .str z :: _)) => if w = "let" then some z else none | _ => none) = _
    rw [h1]
    cases v1 <;> first | exact if_neg hw | rfl
theorem leto_keep {K : PySem.W.Frag} {H H' : Hp} {v : V} {x : PyData} (h : SV K H v x) (k : KeepT H H') : leto H' v = leto H v := by
  obtain ⟨p, w, v1, vs, rfl, h1, _⟩ := h
  show (match H' p with | some (.tup (.str w :: .str z :: _)) => if w = "let" then some z else none | _ => none) = (match H p with | some (.tup (.str w :: .str z :: _)) => if w = "let" then some z else none | _ => none)
  rw [h1, k.1 _ _ h1]
theorem lets_keep {K : PySem.W.Frag} {H H' : Hp} {lo hi : Int} (k : KeepT H H') : ∀ {rs : List Addr} {es : List En}, EnsOk K H rs es → letsOf H' lo hi es = letsOf H lo hi es
  | _, _, .nil => rfl
  | _, _, .cons h t => by
    rw [letsOf, letsOf, leto_keep h.2 k, lets_keep k t]
theorem lets_append (H : Hp) (lo hi : Int) : ∀ (a b : List En), letsOf H lo hi (a ++ b) = letsOf H lo hi a ++ letsOf H lo hi b
  | [], b => rfl
  | e :: a, b => by
    rw [List.cons_append, letsOf, letsOf, lets_append H lo hi a b]
    split
    · split <;> rfl
    · rfl
theorem lets_len (H : Hp) (lo hi : Int) : ∀ (a : List En), (letsOf H lo hi a).length ≤ a.length
  | [] => Nat.le_refl _
  | e :: a => by
    have := lets_len H lo hi a
    rw [letsOf, List.length_cons]
    split
    · split
      · rw [List.length_cons]; omega
      · omega
    · omega
theorem merge_snoc (l : List (Key × V)) (x : Key × V) : mergeK [] (l ++ [x]) = putK (mergeK [] l) x.1 x.2 := by
  unfold mergeK
  rw [List.foldl_append]
  rfl
theorem merge_len (l : List (Key × V)) : (mergeK [] l).length ≤ l.length := by
  have := length_mergeK l []
  simpa using this
/-- before the entry at i there is no other up to its place -/
theorem lets_cut {H : Hp} {lo hi : Int} {es : List En} (ha : (es.map (·.1)).Pairwise (· < ·)) {i : Nat} {e : En} (he : es[i]? = some e) (hhi : e.1 < hi) : letsOf H lo e.1 es = letsOf H lo hi (es.take i) := by
  have a1 : ∀ l : List En, (∀ x, x ∈ l → ¬ x.1 < e.1) → letsOf H lo e.1 l = [] := fun l => by
    induction l with
    | nil => intro _; rfl
    | cons x l ih =>
      intro h
      rw [letsOf, if_neg (fun z => h x List.mem_cons_self z.2)]
      exact ih fun y hy => h y (List.mem_cons_of_mem _ hy)
  have a2 : ∀ l : List En, (∀ x, x ∈ l → x.1 < e.1) → letsOf H lo e.1 l = letsOf H lo hi l := fun l => by
    induction l with
    | nil => intro _; rfl
    | cons x l ih =>
      intro h
      have h1 := h x List.mem_cons_self
      rw [letsOf, letsOf, ih fun y hy => h y (List.mem_cons_of_mem _ hy)]
      by_cases c : lo ≤ x.1
      · rw [if_pos ⟨c, h1⟩, if_pos ⟨c, by omega⟩]
      · rw [if_neg (fun z => c z.1), if_neg (fun z => c z.1)]
  have hs : es = es.take i ++ es.drop i := (List.take_append_drop i es).symm
  have hd := drop_at he
  have ha' : ((es.take i).map (·.1) ++ (es.drop i).map (·.1)).Pairwise (· < ·) := by rw [← List.map_append, List.take_append_drop]; exact ha
  obtain ⟨_, p2, p3⟩ := List.pairwise_append.mp ha'
  rw [hd, List.map_cons] at p2 p3
  rw [show letsOf H lo e.1 es = letsOf H lo e.1 (es.take i ++ es.drop i) by rw [List.take_append_drop], lets_append, a2 (es.take i) fun x hx => ?_, a1 (es.drop i) fun x hx => ?_, List.append_nil]
  · rw [hd] at hx
    rcases List.mem_cons.mp hx with rfl | hx
    · omega
    · have := (List.pairwise_cons.mp p2).1 x.1 (List.mem_map_of_mem hx)
      omega
  · exact p3 x.1 (List.mem_map_of_mem hx) e.1 List.mem_cons_self
end L16

namespace L16
open PySem PySem.Spec PyProof.Rows L2 GR
/-- the low mark of a position -/
def LowM (ms : List Int) (n lo : Int) : Prop := lo ∈ ms ∧ lo ≤ n ∧ ∀ m, m ∈ ms → m ≤ n → m ≤ lo
theorem filter_snoc {α : Type} {p : α → Bool} {l : List α} {i : Nat} {x : α} (h : l[i]? = some x) : (l.take (i + 1)).filter p = (l.take i).filter p ++ (if p x = true then [x] else []) := by
  rw [take_next h, List.filter_append]
  congr 1
  by_cases c : p x = true
  · rw [if_pos c, List.filter_cons, if_pos c, List.filter_nil]
  · rw [if_neg c, List.filter_cons, if_neg c, List.filter_nil]
theorem lets_one (H : Hp) (lo hi : Int) (e : En) : letsOf H lo hi [e] = if lo ≤ e.1 ∧ e.1 < hi then (match leto H e.2.1 with | some z => [(.inr z, .int e.1)] | none => []) else [] := by
  rw [letsOf, letsOf]
  all_goals (cases leto H e.2.1 <;> rfl)
section
variable {P : Program} {w : World} {K : PySem.W.Frag} {mg : Str → Option Value} {base : Heap}
abbrev s_start_of : Stmt := topS 4
abbrev N_sof : List Str := ["marks", "position", "mark"]
theorem sc_start_of : FnScope N_sof ["marks", "position"] (defScope s_start_of) := ⟨rfl, rfl, rfl, by decide +kernel, rfl, by decide +kernel, by decide +kernel⟩
def sp_sof (K : PySem.W.Frag) : Sp := fun vs H Q _ => ∃ (mp : Addr) (n lo : Int) (ms : List Int), vs = [.ref mp, .int n] ∧ SqT K H mp (ms.map V.int) ∧ LowM ms n lo ∧ ms.length ≤ 6 ∧ ∀ H', Same H H' → Q (.int lo) H'
theorem ok_start_of {f : Addr} {fd : FuncData} {k : Nat} (F : Fun K "start_of" "start_of" s_start_of f fd) (mmax : mg "max" = none) : FnOk P w K mg base CX0 (k + 1) f fd ["marks", "position"] (sp_sof K) := by
  have nd := sc_start_of.nd
  refine F.ok sc_start_of (fun vs H Q E h => ?_) (fun cdv A outer s H vs Q E hr h => ?_)
  · obtain ⟨mp, n, lo, ms, rfl, _⟩ := h
    rfl
  obtain ⟨mp, n, lo, ms, rfl, h2, hlo, hms, q⟩ := h
  refine ⟨_, (pss_one (ps_ret (pe_callBK (SC.cr_maxD rfl (hu_of hr)) (by rfl) mmax boot_max (pa_cons (pe_lc (own := [("mark", 2)]) (tt := tTest (tOp (rI0 fun i j => .bl (decide (i ≤ j))) (tVar 2) (tVar 1))) (te := tVar 2) rfl nd (pi_tup (pv 0)) (blkOk_by (N := N_sof) (sc := defScope s_start_of) (by decide +kernel)) (fun _ _ _ _ _ => (pg_name (i := 2) nd rfl (Or.inl rfl))) (fun _ _ _ _ _ => (pts_one (pt_cmpR op_le (pv 2) (pv 1) (nomark _)))) (fun _ _ _ _ _ => (pv 2))) pa_nil) (pk_cons pe_int pk_nil)))), ?_⟩
  refine ⟨.ref mp, rfl, mp, rfl, ⟨_, h2⟩, fun D nD => ?_⟩
  refine lc_tup (xs := ms.map V.int) (fun i H' => H' D = some (.lst (((ms.take i).filter fun m => decide (m ≤ n)).map V.int)) ∧ ∀ b o, b ≠ D → H b = some o → H' b = some o) ?_ ?_ ?_ ?_
  · exact ⟨upd_same, fun b o nb e => by rw [upd_ne nb]; exact e⟩
  · rintro i H' _ ⟨_, kp⟩
    exact (KeepT.of (show Same H H' from fun b o e => kp b o (ne_of_none e nD) e)).seqt h2
  · rintro i x H' hx ⟨hD, kp⟩
    rw [List.getElem?_map] at hx
    obtain ⟨m, hm, rfl⟩ := Option.map_eq_some_iff.mp hx
    refine ⟨rfl, .int m, rfl, .int n, rfl, m, n, rfl, rfl, _, rfl, ?_⟩
    rw [filter_snoc hm]
    by_cases c : m ≤ n
    · rw [decide_eq_true c, if_pos rfl]
      refine iteT ⟨.int m, rfl, _, hD, small1000 ?_, ?_, fun b o nb e => by rw [upd_ne nb]; exact kp b o nb e⟩
      · rw [List.length_map]
        exact Nat.le_trans (List.length_filter_le _ _) (by rw [List.length_take]; omega)
      · rw [List.map_append]
        exact upd_same
    · rw [decide_eq_false c, if_neg Bool.false_ne_true, List.append_nil]
      exact iteF ⟨hD, kp⟩
  · rintro H1 ⟨hD, kp⟩
    rw [List.length_map, List.take_length] at hD
    have sm1 : Same H H1 := fun b o e => kp b o (ne_of_none e nD) e
    refine ⟨D, _, .int 0, rfl, rfl, .inl (.inl hD), fun z => ?_, fun m hm hmax => ?_⟩
    · have : lo ∈ ms.filter fun m => decide (m ≤ n) := List.mem_filter.mpr ⟨hlo.1, decide_eq_true hlo.2.1⟩
      rw [z] at this
      exact nomatch this
    obtain ⟨hm1, hm2⟩ := List.mem_filter.mp hm
    obtain rfl : m = lo := by
      have a1 := hlo.2.2 m hm1 (of_decide_eq_true hm2)
      have a2 := hmax lo (List.mem_filter.mpr ⟨hlo.1, decide_eq_true hlo.2.1⟩)
      omega
    exact q H1 sm1
end
section
variable {P : Program} {w : World} {K : PySem.W.Frag} {mg : Str → Option Value} {base : Heap}
abbrev s_lets_at : Stmt := topS 5
abbrev N_lat : List Str := ["log", "position", "marks", "entries", "start", "place", "statement"]
theorem sc_lets_at : FnScope N_lat ["log", "position"] (defScope s_lets_at) := ⟨rfl, rfl, rfl, by decide +kernel, rfl, by decide +kernel, by decide +kernel⟩
def sp_lat (K : PySem.W.Frag) : Sp := fun vs H Q _ => ∃ (p : Addr) (n lo : Int) (ms : List Int) (es : List En), vs = [.ref p, .int n] ∧ Lg K H p ms es ∧ LowM ms n lo ∧ ms.length ≤ 6 ∧ es.length ≤ 30 ∧
  ∀ H' d, Same H H' → H' d = some (.dK (mergeK [] (letsOf H lo n es))) → Q (.ref d) H'
theorem ok_lets_at {f : Addr} {fd : FuncData} {k : Nat} (F : Fun K "lets_at" "lets_at" s_lets_at f fd) {f_s : Addr} {d_s : FuncData} (G : FnOk P w K mg base CX0 k f_s d_s ["marks", "position"] (sp_sof K)) (g : mg "start_of" = some (.ref f_s)) (Kf : PySem.W.keepIn K (.ref f_s) = true) (bf : Binds K d_s ["marks", "position"] []) : FnOk P w K mg base CX0 (k + 1) f fd ["log", "position"] (sp_lat K) := by
  have nd := sc_lets_at.nd
  refine F.ok sc_lets_at (fun vs H Q E h => ?_) (fun cdv A outer s H vs Q E hr h => ?_)
  · obtain ⟨p, n, lo, ms, es, rfl, _⟩ := h
    rfl
  obtain ⟨p, n, m, ms, es, rfl, ⟨mp, ep, rs, h1, h2, h3, h4⟩, hlo, hms, hes, q⟩ := h
  refine ⟨_, (pss_cons (ps_asg (pv 0) (pg_tup rfl (pgs_cons (pg_name (i := 2) nd rfl (Or.inl rfl)) (pgs_cons (pg_name (i := 3) nd rfl (Or.inl rfl)) pgs_nil))))
      (pss_cons (ps_set (i := 4) nd rfl (.inr rfl) (pe_call G hr (by rfl) g Kf bf .nil pass0 (pa_cons (pv 2) (pa_cons (pv 1) pa_nil))))
      (pss_one (ps_ret (pe_dc (own := [("place", 5), ("statement", 6)]) (g := gTup K 2 (gCons (gName 5) (gCons (gName 6) gNil))) (tt := tAnd (tTest (tChain (rI0 fun i j => .bl (decide (i ≤ j))) (rI0 fun i j => .bl (decide (i < j))) (tVar 4) (tVar 5) (tVar 1))) (tTest (tOp rEq (tOp (rIxT K) (tVar 6) (tC (.int 0))) (tC (.str "let")))))
          (tk := tOp (rIxT K) (tVar 6) (tC (.int 1))) (tv := tVar 5) rfl nd (pi_tup (pv 3)) (blkOk_by (N := N_lat) (sc := defScope s_lets_at) (by decide +kernel))
          (fun _ _ _ _ _ => (pg_tup rfl (pgs_cons (pg_name (i := 5) (x := "place") nd rfl (Or.inl rfl)) (pgs_cons (pg_name (i := 6) (x := "statement") nd rfl (Or.inl rfl)) pgs_nil))))
          (fun _ _ _ _ _ => pts_one (PW.pt (pw_and (pt_chain op_le op_lt (pv 4) (pv 5) (pv 1)) (pw_and1 (pt_cmpR op_eq (pe_ix ix_tup (pv 6) pe_int (fun _ _ => rfl)) pe_str (nomark _))))))
          (fun _ _ _ _ _ => (pe_ix ix_tup (pv 6) pe_int (fun _ _ => rfl))) (fun _ _ _ _ _ => (pv 5))))))), ?_⟩
  refine ⟨.ref p, rfl, p, _, rfl, .inl (.inl h1), rfl, _, _, rfl, _, _, rfl, rfl, ?_⟩
  -- start
  refine ⟨.ref mp, rfl, .int n, rfl, mp, n, m, ms, rfl, .inl (.inl h2), hlo, hms, fun H1 sm1 => ?_⟩
  have h31 : SqT K H1 ep (rs.map V.ref) := .inl (rd_keep h3 (KeepT.of sm1))
  have h41 := ens_keep (KeepT.of sm1) h4
  have hlk : letsOf H m n es = letsOf H1 m n es := (lets_keep (KeepT.of sm1) h4).symm
  refine ⟨.ref ep, rfl, ep, rfl, ⟨_, h31⟩, fun d nd2 => ?_⟩
  refine dc_tup (xs := rs.map V.ref) (fun i H' => H' d = some (.dK (mergeK [] (letsOf H1 m n (es.take i)))) ∧ ∀ b o, b ≠ d → H1 b = some o → H' b = some o) ?_ ?_ ?_ ?_
  · exact ⟨upd_same, fun b o nb e => by rw [upd_ne nb]; exact e⟩
  · rintro i H' _ ⟨_, kp2⟩
    exact .inl (rd_keep (rd_keep h3 (KeepT.of sm1)) ⟨fun b xs e => kp2 b _ (ne_of_none e nd2) e, fun b o xs e => kp2 b _ (ne_of_none e nd2) e⟩)
  · rintro i x H' hx ⟨hd, kp2⟩
    rw [List.getElem?_map] at hx
    obtain ⟨r, hr', rfl⟩ := Option.map_eq_some_iff.mp hx
    obtain ⟨e, he, h5⟩ := ens_at h41 hr'
    have kt2 : KeepT H1 H' := ⟨fun b xs e => kp2 b _ (ne_of_none e nd2) e, fun b o xs e => kp2 b _ (ne_of_none e nd2) e⟩
    have h6 := h5.keep kt2
    refine ⟨r, _, rfl, .inl (.inl h6.1), rfl, _, _, rfl, _, _, rfl, rfl, rfl, ?_⟩
    have hls := lets_append H1 m n (es.take i) [e]
    rw [← take_next he, lets_one] at hls
    refine ⟨.int m, rfl, .int e.1, rfl, m, e.1, rfl, rfl, _, rfl, ?_⟩
    have hlen : (mergeK [] (letsOf H1 m n (es.take i))).length ≤ 30 := Nat.le_trans (merge_len _) (Nat.le_trans (lets_len _ _ _ _) (by rw [List.length_take]; omega))
    by_cases c1 : m ≤ e.1
    · rw [decide_eq_true c1]
      refine iteT ⟨.int n, rfl, e.1, n, rfl, rfl, _, rfl, ?_⟩
      by_cases c2 : e.1 < n
      · rw [decide_eq_true c2]
        rw [if_pos ⟨c1, c2⟩] at hls
        obtain ⟨p', wd, v1, vs', ev, hp', hc⟩ := sv_lets h5.2
        have hp2 := kt2.1 _ _ hp'
        refine iteT ⟨e.2.1, rfl, p', _, 0, .str wd, ev, rfl, .inl (.inl hp2), atI_nat (j := 0) rfl, rfl, _, rfl, ?_⟩
        rcases hc with ⟨rfl, z, rfl, hz, hlz⟩ | ⟨hw, hlz⟩
        · rw [decide_eq_true rfl]
          rw [hlz] at hls
          refine iteT ⟨e.2.1, rfl, p', _, 1, .str z, ev, rfl, .inl (.inl hp2), atI_nat (j := 1) rfl, .int e.1, rfl, _, .inr z, rfl, hd, small1000 (by omega), ?_, fun b o nb q' => by rw [upd_ne nb]; exact kp2 b o nb q'⟩
          rw [hls, merge_snoc]
          exact upd_same
        · rw [decide_eq_false (fun z => hw (by injection z))]
          rw [hlz, List.append_nil] at hls
          refine iteF ⟨?_, kp2⟩
          rw [hls]
          exact hd
      · rw [decide_eq_false c2]
        rw [if_neg (fun z => c2 z.2), List.append_nil] at hls
        refine iteF ⟨?_, kp2⟩
        rw [hls]
        exact hd
    · rw [decide_eq_false c1]
      rw [if_neg (fun z => c1 z.1), List.append_nil] at hls
      refine iteF ⟨_, rfl, iteF ⟨?_, kp2⟩⟩
      rw [hls]
      exact hd
  · rintro H2 ⟨hd, kp2⟩
    have hl := ens_len h4
    rw [List.length_map, hl, List.take_length, ← hlk] at hd
    exact q _ d (fun b o e => kp2 b o (ne_of_none (sm1 _ _ e) nd2) (sm1 _ _ e)) hd
end
end L16

namespace L16
open PySem PySem.Spec PyProof.Rows L2 GR
theorem len1 {α : Type} {l : List α} (h : l.length = 1) : ∃ a, l = [a] := match l, h with | [a], _ => ⟨a, rfl⟩
theorem len2 {α : Type} {l : List α} (h : l.length = 2) : ∃ a b, l = [a, b] := match l, h with | [a, b], _ => ⟨a, b, rfl⟩
theorem len3 {α : Type} {l : List α} (h : l.length = 3) : ∃ a b c, l = [a, b, c] := match l, h with | [a, b, c], _ => ⟨a, b, c, rfl⟩
theorem len4 {α : Type} {l : List α} (h : l.length = 4) : ∃ a b c d, l = [a, b, c, d] := match l, h with | [a, b, c, d], _ => ⟨a, b, c, d, rfl⟩
theorem len5 {α : Type} {l : List α} (h : l.length = 5) : ∃ a b c d e, l = [a, b, c, d, e] := match l, h with | [a, b, c, d, e], _ => ⟨a, b, c, d, e, rfl⟩
section
variable {P : Program} {w : World} {K : PySem.W.Frag} {mg : Str → Option Value} {base : Heap}
abbrev s_let_of : Stmt := topS 3
abbrev N_lof : List Str := ["log", "position", "variable"]
theorem sc_let_of : FnScope N_lof N_lof (defScope s_let_of) := ⟨rfl, rfl, rfl, by decide +kernel, rfl, by decide +kernel, by decide +kernel⟩
def sp_lof (K : PySem.W.Frag) : Sp := fun vs H Q _ => ∃ (p : Addr) (n lo : Int) (z : Str) (ms : List Int) (es : List En), vs = [.ref p, .int n, .str z] ∧ Lg K H p ms es ∧ LowM ms n lo ∧ ms.length ≤ 6 ∧ es.length ≤ 30 ∧
  ∀ H', Same H H' → Q ((valV (mergeK [] (letsOf H lo n es)) (.inr z)).getD .non) H'
theorem ok_let_of {f f_l : Addr} {fd d_l : FuncData} {k : Nat} (F : Fun K "let_of" "let_of" s_let_of f fd) (G : FnOk P w K mg base CX0 k f_l d_l ["log", "position"] (sp_lat K)) (g : mg "lets_at" = some (.ref f_l)) (Kf : PySem.W.keepIn K (.ref f_l) = true) (b : Binds K d_l ["log", "position"] []) : FnOk P w K mg base CX0 (k + 1) f fd N_lof (sp_lof K) := by
  have nd := sc_let_of.nd
  refine F.ok sc_let_of (fun vs H Q E h => ?_) (fun cdv A outer s H vs Q E hr h => ?_)
  · obtain ⟨p, n, lo, z, ms, es, rfl, _⟩ := h
    rfl
  obtain ⟨p, n, lo, z, ms, es, rfl, L, hlo, h1, h2, q⟩ := h
  refine ⟨_, (pss_one (ps_ret (pe_dget1 (hu_of hr) (pe_call G hr (by rfl) g Kf b .nil pass0 (pa_cons (pv 0) (pa_cons (pv 1) pa_nil))) (pv 2) ⟨by rfl, by rfl, by rfl, by rfl⟩))), ?_⟩
  refine ⟨.ref p, rfl, .int n, rfl, p, n, lo, ms, es, rfl, L, hlo, h1, h2, fun H' d s1 hd => ⟨d, rfl, .inl ⟨_, .inl hd⟩, .str z, rfl, _, DGet.k (k := .inr z) hd, q H' s1⟩⟩
abbrev s_law_log_of : Stmt := topS 16
abbrev N_llo : List Str := ["_law_some"]
theorem sc_law_log_of : FnScope N_llo N_llo (defScope s_law_log_of) := ⟨rfl, rfl, rfl, by decide +kernel, rfl, by decide +kernel, by decide +kernel⟩
def sp_llo (K : PySem.W.Frag) : Sp := fun vs H Q _ => ∃ (so : Addr) (T : List (Addr × List St1)), vs = [.ref so] ∧ Sm K H so T ∧ ∀ H' p, Same H H' → LgF K H' p (0 :: mks 0 (T.map (·.2))) (entN 0 (T.map (·.2)).flatten) → Q (.ref p) H'
theorem Sm.tr' {K : PySem.W.Frag} {H : Hp} {so : Addr} {T : List (Addr × List St1)} (S : Sm K H so T) : Tr K H T := ⟨S.tr, S.len⟩
theorem ok_law_log_of {f f_l : Addr} {fd : FuncData} {k : Nat} (F : Fun K "_law_log_of" "_law_log_of" s_law_log_of f fd) (G : FnR P w K mg base CX0 k f_l (sp_logof K)) (g : mg "log_of" = some (.ref f_l)) (Kf : PySem.W.keepIn K (.ref f_l) = true) (mlen : mg "len" = none) : FnOk P w K mg base CX0 (k + 1) f fd N_llo (sp_llo K) := by
  have nd := sc_law_log_of.nd
  refine F.ok sc_law_log_of (fun vs H Q E h => ?_) (fun cdv A outer s H vs Q E hr h => ?_)
  · obtain ⟨so, T, rfl, _⟩ := h
    rfl
  obtain ⟨so, T, rfl, S, q⟩ := h
  refine ⟨_, (pss_cons (ps_if (pt_cmpR op_eq (pe_callB call_len_seq (by rfl) mlen PySem.boot_len (pa_cons (pv 0) pa_nil)) pe_int (nomark _))
      (pss_one (ps_ret (SC.pe_callR0 G hr (by rfl) g Kf pass0)))
      pss_nil)
      (pss_cons (ps_if (pt_cmpR op_eq (pe_callB call_len_seq (by rfl) mlen PySem.boot_len (pa_cons (pv 0) pa_nil)) pe_int (nomark _))
      (pss_one (ps_ret (SC.pe_callR G hr (by rfl) g Kf pass0 (pa_cons (pe_ix ix_list (pv 0) pe_int (fun _ _ => rfl)) pa_nil))))
      pss_nil)
      (pss_cons (ps_if (pt_cmpR op_eq (pe_callB call_len_seq (by rfl) mlen PySem.boot_len (pa_cons (pv 0) pa_nil)) pe_int (nomark _))
      (pss_one (ps_ret (SC.pe_callR G hr (by rfl) g Kf pass0 (pa_cons (pe_ix ix_list (pv 0) pe_int (fun _ _ => rfl)) (pa_cons (pe_ix ix_list (pv 0) pe_int (fun _ _ => rfl)) pa_nil)))))
      pss_nil)
      (pss_cons (ps_if (pt_cmpR op_eq (pe_callB call_len_seq (by rfl) mlen PySem.boot_len (pa_cons (pv 0) pa_nil)) pe_int (nomark _))
      (pss_one (ps_ret (SC.pe_callR G hr (by rfl) g Kf pass0 (pa_cons (pe_ix ix_list (pv 0) pe_int (fun _ _ => rfl)) (pa_cons (pe_ix ix_list (pv 0) pe_int (fun _ _ => rfl)) (pa_cons (pe_ix ix_list (pv 0) pe_int (fun _ _ => rfl)) pa_nil))))))
      pss_nil)
      (pss_cons (ps_if (pt_cmpR op_eq (pe_callB call_len_seq (by rfl) mlen PySem.boot_len (pa_cons (pv 0) pa_nil)) pe_int (nomark _))
      (pss_one (ps_ret (SC.pe_callR G hr (by rfl) g Kf pass0 (pa_cons (pe_ix ix_list (pv 0) pe_int (fun _ _ => rfl)) (pa_cons (pe_ix ix_list (pv 0) pe_int (fun _ _ => rfl)) (pa_cons (pe_ix ix_list (pv 0) pe_int (fun _ _ => rfl)) (pa_cons (pe_ix ix_list (pv 0) pe_int (fun _ _ => rfl)) pa_nil)))))))
      pss_nil)
      (pss_one (ps_ret (SC.pe_callR G hr (by rfl) g Kf pass0 (pa_cons (pe_ix ix_list (pv 0) pe_int (fun _ _ => rfl)) (pa_cons (pe_ix ix_list (pv 0) pe_int (fun _ _ => rfl)) (pa_cons (pe_ix ix_list (pv 0) pe_int (fun _ _ => rfl)) (pa_cons (pe_ix ix_list (pv 0) pe_int (fun _ _ => rfl)) (pa_cons (pe_ix ix_list (pv 0) pe_int (fun _ _ => rfl)) pa_nil))))))))))))), ?_⟩
  have hat := S.at'
  have hT : Tr K H T := S.tr'
  have test : ∀ {R1 R2 : Prop} (n : Int), (T.length = n.toNat ∧ 0 ≤ n → R1) → (¬ (T.length : Int) = n → R2) → if decide (V.int (((T.map fun t => V.ref t.1).length : Nat) : Int) = V.int n) = true then R1 else R2 := fun {R1 R2} n a b => by
    rw [List.length_map]
    by_cases c : (T.length : Int) = n
    · rw [if_pos (by rw [dec_int, c, beq_self_eq_true])]
      exact a ⟨by omega, by omega⟩
    · rw [if_neg (by rw [dec_int]; exact fun z => c (beq_iff_eq.mp z))]
      exact b c
  have hd : SqL K H so (T.map fun t => V.ref t.1) := .inl (.inl hat)
  refine ⟨.ref so, rfl, so, _, rfl, .inl hd, rfl, _, rfl, test 0 (fun z => ?_) fun n0 => ?_⟩
  · obtain rfl : T = [] := List.eq_nil_of_length_eq_zero z.1
    exact ⟨[], rfl, hT, q⟩
  refine ⟨.ref so, rfl, so, _, rfl, .inl hd, rfl, _, rfl, test 1 (fun z => ?_) fun n1 => ?_⟩
  · obtain ⟨a, rfl⟩ := len1 z.1
    exact ⟨.ref so, rfl, so, _, 0, .ref a.1, rfl, rfl, hd, rfl, [a], rfl, hT, q⟩
  refine ⟨.ref so, rfl, so, _, rfl, .inl hd, rfl, _, rfl, test 2 (fun z => ?_) fun n2 => ?_⟩
  · obtain ⟨a, b, rfl⟩ := len2 z.1
    exact ⟨.ref so, rfl, so, _, 0, .ref a.1, rfl, rfl, hd, rfl, .ref so, rfl, so, _, 1, .ref b.1, rfl, rfl, hd, rfl, [a, b], rfl, hT, q⟩
  refine ⟨.ref so, rfl, so, _, rfl, .inl hd, rfl, _, rfl, test 3 (fun z => ?_) fun n3 => ?_⟩
  · obtain ⟨a, b, c, rfl⟩ := len3 z.1
    exact ⟨.ref so, rfl, so, _, 0, .ref a.1, rfl, rfl, hd, rfl, .ref so, rfl, so, _, 1, .ref b.1, rfl, rfl, hd, rfl, .ref so, rfl, so, _, 2, .ref c.1, rfl, rfl, hd, rfl, [a, b, c], rfl, hT, q⟩
  refine ⟨.ref so, rfl, so, _, rfl, .inl hd, rfl, _, rfl, test 4 (fun z => ?_) fun n4 => ?_⟩
  · obtain ⟨a, b, c, d, rfl⟩ := len4 z.1
    exact ⟨.ref so, rfl, so, _, 0, .ref a.1, rfl, rfl, hd, rfl, .ref so, rfl, so, _, 1, .ref b.1, rfl, rfl, hd, rfl, .ref so, rfl, so, _, 2, .ref c.1, rfl, rfl, hd, rfl, .ref so, rfl, so, _, 3, .ref d.1, rfl, rfl, hd, rfl, [a, b, c, d], rfl, hT, q⟩
  have h5 : T.length = 5 := by have := S.len; omega
  obtain ⟨a, b, c, d, e, rfl⟩ := len5 h5
  exact ⟨.ref so, rfl, so, _, 0, .ref a.1, rfl, rfl, hd, rfl, .ref so, rfl, so, _, 1, .ref b.1, rfl, rfl, hd, rfl, .ref so, rfl, so, _, 2, .ref c.1, rfl, rfl, hd, rfl, .ref so, rfl, so, _, 3, .ref d.1, rfl, rfl, hd, rfl, .ref so, rfl, so, _, 4, .ref e.1, rfl, rfl, hd, rfl, [a, b, c, d, e], rfl, hT, q⟩
end
end L16

namespace L16
open PySem PySem.Spec PyProof.Rows L2 GR
/-- the numbers of a log that is being made; a: the next place -/
structure Nu (ms : List Int) (es : List En) (a : Int) : Prop where
  asc : (es.map (·.1)).Pairwise (· < ·)
  lt : ∀ e, e ∈ es → 0 ≤ e.1 ∧ e.1 < a
  mono : ms.Pairwise (· ≤ ·)
  le : ∀ m, m ∈ ms → 0 ≤ m ∧ m ≤ a
  m0 : ms.head? = some 0
  a0 : 0 ≤ a
theorem Nu.more {ms : List Int} {es : List En} {a b : Int} (h : Nu ms es a) (k : a ≤ b) : Nu ms es b :=
  ⟨h.asc, fun e he => by have := h.lt e he; omega, h.mono, fun m hm => by have := h.le m hm; omega, h.m0, by have := h.a0; omega⟩
theorem Nu.line {ms : List Int} {es : List En} {a : Int} (h : Nu ms es a) (v : V) (x : PyData) : Nu ms (es ++ [(a, v, x)]) (a + 1) := by
  refine ⟨?_, fun e he => ?_, h.mono, fun m hm => by have := h.le m hm; omega, h.m0, by have := h.a0; omega⟩
  · rw [List.map_append, List.pairwise_append]
    refine ⟨h.asc, List.pairwise_singleton _ _, fun x hx y hy => ?_⟩
    obtain ⟨e, he, rfl⟩ := List.mem_map.mp hx
    rw [List.mem_singleton.mp hy]
    exact (h.lt e he).2
  · rcases List.mem_append.mp he with he | he
    · have := h.lt e he
      omega
    · rw [List.mem_singleton.mp he]
      have := h.a0
      exact ⟨this, by show a < a + 1; omega⟩
theorem Nu.mark {ms : List Int} {es : List En} {a : Int} (h : Nu ms es a) : Nu (ms ++ [a]) es a := by
  refine ⟨h.asc, h.lt, ?_, fun m hm => ?_, ?_, h.a0⟩
  · rw [List.pairwise_append]
    refine ⟨h.mono, List.pairwise_singleton _ _, fun x hx y hy => ?_⟩
    rw [List.mem_singleton.mp hy]
    exact (h.le x hx).2
  · rcases List.mem_append.mp hm with hm | hm
    · exact h.le m hm
    · rw [List.mem_singleton.mp hm]
      exact ⟨h.a0, Int.le_refl _⟩
  · rw [List.head?_append, h.m0]
    rfl
theorem head_mem {l : List Int} {a : Int} (h : l.head? = some a) : a ∈ l := by
  cases l with
  | nil => cases h
  | cons b l => cases h; exact List.mem_cons_self
theorem Nu.ok {ms : List Int} {es : List En} {a : Int} (h : Nu ms es a) (h1 : a ≤ 10000) (h2 : ms.length ≤ 6) (h3 : es.length ≤ 30) : OkL ms es :=
  ⟨h.asc, h.mono, fun e he => by have := h.lt e he; omega, fun m hm => by have := h.le m hm; omega, head_mem h.m0, h2, h3⟩
/-- the last mark becomes 10000 -/
theorem Nu.last {ms : List Int} {es : List En} {a : Int} (h : Nu ms es a) (h1 : a ≤ 10000) (h2 : ms.length ≤ 6) (h3 : es.length ≤ 30) (h4 : 1 < ms.length) : OkL (ms.set (ms.length - 1) 10000) es := by
  obtain ⟨fr, b, rfl⟩ : ∃ fr b, ms = fr ++ [b] := ⟨ms.dropLast, ms.getLast (fun z => by rw [z] at h4; cases h4), (List.dropLast_concat_getLast _).symm⟩
  have e : (fr ++ [b]).set ((fr ++ [b]).length - 1) 10000 = fr ++ [10000] := by
    rw [List.length_append, List.length_singleton, Nat.add_sub_cancel, List.set_append_right _ _ (Nat.le_refl _), Nat.sub_self]
    rfl
  rw [e]
  have hm := (List.pairwise_append.mp h.mono).1
  refine ⟨h.asc, ?_, fun e he => by have := h.lt e he; omega, fun m hm => ?_, ?_, by rw [List.length_append] at h2 ⊢; exact h2, h3⟩
  · rw [List.pairwise_append]
    refine ⟨hm, List.pairwise_singleton _ _, fun x hx y hy => ?_⟩
    rw [List.mem_singleton.mp hy]
    have := h.le x (List.mem_append_left _ hx)
    omega
  · rcases List.mem_append.mp hm with hm | hm
    · have := h.le m (List.mem_append_left _ hm)
      omega
    · rw [List.mem_singleton.mp hm]
      omega
  · cases fr with
    | nil => simp at h4
    | cons f fr =>
      have := h.m0
      cases this
      exact List.mem_cons_self
/-- two lists are being made beside a deck -/
structure He (K : PySem.W.Frag) (d c : Addr) (H0 : Hp) (mb lb : Addr) (ms : List Int) (es : List En) (H : Hp) : Prop where
  hm : H mb = some (.lst (ms.map V.int))
  hl : ∃ rs : List Addr, H lb = some (.lst (rs.map V.ref)) ∧ EnsOk K H rs es
  old : ∀ b ob, b ≠ d → b ≠ c → b ≠ mb → b ≠ lb → H0 b = some ob → H b = some ob
theorem He.keep {K : PySem.W.Frag} {d c : Addr} {H0 H H' : Hp} {mb lb : Addr} {ms : List Int} {es : List En} (t : He K d c H0 mb lb ms es H) (k : Keep d c H H') (kt : KeepT H H') (m : mb ≠ d ∧ mb ≠ c) (l : lb ≠ d ∧ lb ≠ c) : He K d c H0 mb lb ms es H' := by
  obtain ⟨rs, h1, h2⟩ := t.hl
  exact ⟨k _ _ m.1 m.2 t.hm, ⟨rs, k _ _ l.1 l.2 h1, ens_keep kt h2⟩, fun b ob n1 n2 n3 n4 e => k _ _ n1 n2 (t.old b ob n1 n2 n3 n4 e)⟩
theorem He.line {K : PySem.W.Frag} {d c : Addr} {H0 H : Hp} {mb lb r : Addr} {ms : List Int} {es : List En} {e : En} (t : He K d c H0 mb lb ms es H) (hml : mb ≠ lb) (hr : EnOk K H r e) : ∃ rs : List Addr, H lb = some (.lst (rs.map V.ref)) ∧ rs.length = es.length ∧ He K d c H0 mb lb ms (es ++ [e]) (upd H lb (.lst (rs.map V.ref ++ [.ref r]))) := by
  obtain ⟨rs, h1, h2⟩ := t.hl
  have kt : KeepT H (upd H lb (.lst (rs.map V.ref ++ [.ref r]))) := KeepT.lst h1
  refine ⟨rs, h1, ens_len h2, by rw [upd_ne hml]; exact t.hm, ⟨rs ++ [r], by rw [List.map_append]; exact upd_same, ens_append (ens_keep kt h2) (.cons (hr.keep kt) .nil)⟩, fun b ob n1 n2 n3 n4 e => ?_⟩
  rw [upd_ne n4]
  exact t.old b ob n1 n2 n3 n4 e
theorem He.marks {K : PySem.W.Frag} {d c : Addr} {H0 H : Hp} {mb lb : Addr} {ms ms' : List Int} {es : List En} (t : He K d c H0 mb lb ms es H) (hml : mb ≠ lb) : He K d c H0 mb lb ms' es (upd H mb (.lst (ms'.map V.int))) := by
  obtain ⟨rs, h1, h2⟩ := t.hl
  have kt : KeepT H (upd H mb (.lst (ms'.map V.int))) := KeepT.lst t.hm
  refine ⟨upd_same, ⟨rs, by rw [upd_ne hml.symm]; exact h1, ens_keep kt h2⟩, fun b ob n1 n2 n3 n4 e => ?_⟩
  rw [upd_ne n3]
  exact t.old b ob n1 n2 n3 n4 e
end L16

namespace L16
open PySem PySem.Spec PyProof.Rows L2 GR
section
variable {P : Program} {w : World} {K : PySem.W.Frag} {mg : Str → Option Value} {base : Heap}
abbrev s_law_spread : Stmt := topS 15
abbrev N_sp : List Str := ["_law_deck_here", "_law_some", "_law_marks", "_law_lines", "_law_at", "_law_transaction_here", "_law_statement_here"]
theorem sc_law_spread : FnScope N_sp ["_law_deck_here", "_law_some"] (defScope s_law_spread) := ⟨rfl, rfl, rfl, by decide +kernel, rfl, by decide +kernel, by decide +kernel⟩
def sp_spread (K : PySem.W.Frag) : Sp := fun vs H Q _ => ∃ (d c so : Addr) (N : Int) (T : List (Addr × List St1)), vs = [.ref d, .ref so] ∧ Deck H d c N ∧ N < 2 ^ 59 ∧ Sm K H so T ∧ so ≠ d ∧ so ≠ c ∧
  ∀ H' p ms es, Keep d c H H' → Deck H' d c (N + 100) → LgF K H' p ms es → OkL ms es → Q (.ref p) H'
/-- the state between statements -/
structure Zu (K : PySem.W.Frag) (d c so : Addr) (N : Int) (T : List (Addr × List St1)) (H0 : Hp) (mb lb : Addr) (ms : List Int) (es : List En) (a : Int) (H : Hp) : Prop where
  he : He K d c H0 mb lb ms es H
  nu : Nu ms es a
  dk : Deck H d c N
  sm : Sm K H so T
theorem Zu.draw {K : PySem.W.Frag} {d c so : Addr} {N M : Int} {T : List (Addr × List St1)} {H0 H H' : Hp} {mb lb : Addr} {ms : List Int} {es : List En} {a : Int} (z : Zu K d c so N T H0 mb lb ms es a H) (k : Keep d c H H') (D : Deck H' d c M) (m : mb ≠ d ∧ mb ≠ c) (l : lb ≠ d ∧ lb ≠ c) (o : so ≠ d ∧ so ≠ c) : Zu K d c so M T H0 mb lb ms es a H' :=
  ⟨z.he.keep k (k.t z.dk) m l, z.nu, D, z.sm.keep (k.t z.dk) (by rw [z.sm.at']; exact k _ _ o.1 o.2 z.sm.at')⟩
theorem Zu.same {K : PySem.W.Frag} {d c so : Addr} {N : Int} {T : List (Addr × List St1)} {H0 H H' : Hp} {mb lb : Addr} {ms : List Int} {es : List En} {a : Int} (z : Zu K d c so N T H0 mb lb ms es a H) (s : Same H H') (m : mb ≠ d ∧ mb ≠ c) (l : lb ≠ d ∧ lb ≠ c) (o : so ≠ d ∧ so ≠ c) : Zu K d c so N T H0 mb lb ms es a H' := z.draw (Keep.of s) (z.dk.same s) m l o
theorem ok_spread {f f_law_draw f_law_pick : Addr} {fd fd_law_draw fd_law_pick : FuncData} {k : Nat} (F : Fun K "_law_spread" "_law_spread" s_law_spread f fd) (G_law_draw : FnOk P w K mg base CX0 k f_law_draw fd_law_draw ["_law_deck_here", "_law_most"] sp_draw)
    (g_law_draw : mg "_law_draw" = some (.ref f_law_draw)) (K_law_draw : PySem.W.keepIn K (.ref f_law_draw) = true) (b_law_draw : Binds K fd_law_draw ["_law_deck_here", "_law_most"] [])
    (G_law_pick : FnOk P w K mg base CX0 k f_law_pick fd_law_pick ["_law_deck_here", "_law_some"] (sp_pick K))
    (g_law_pick : mg "_law_pick" = some (.ref f_law_pick)) (K_law_pick : PySem.W.keepIn K (.ref f_law_pick) = true) (b_law_pick : Binds K fd_law_pick ["_law_deck_here", "_law_some"] [])
    (mlen : mg "len" = none) (mtuple : mg "tuple" = none) : FnOk P w K mg base CX0 (k + 1) f fd ["_law_deck_here", "_law_some"] (sp_spread K) := by
  have nd := sc_law_spread.nd
  refine F.ok sc_law_spread (fun vs H Q E h => ?_) (fun cdv A outer s H vs Q E hr h => ?_)
  · obtain ⟨d, c, so, N, T, rfl, _⟩ := h
    rfl
  obtain ⟨d, c, so, N, T, rfl, D, hN, S, hsd, hsc, q⟩ := h
  refine ⟨_, (pss_cons (ps_set (i := 2) nd rfl (.inl rfl) (pe_lst (pa_cons pe_int pa_nil)))
      (pss_cons (ps_set (i := 3) nd rfl (.inl rfl) (pe_lst pa_nil))
      (pss_cons (ps_set (i := 4) nd rfl (.inl rfl) pe_int)
      (pss_cons (ps_for PassesOwn.never rfl (pi_list (pv 1)) (pg_name (i := 5) nd rfl (Or.inl rfl))
      (pss_cons (ps_for PassesOwn.never rfl (pi_tup (pv 5)) (pg_name (i := 6) nd rfl (Or.inl rfl))
        (pss_cons (ps_set (i := 4) nd rfl (.inl rfl) (pe_op op_add (pv 4) (pe_call G_law_pick hr (by rfl) g_law_pick K_law_pick b_law_pick .nil pass0 (pa_cons (pv 0) (pa_cons (pe_lst (pa_cons pe_int (pa_cons pe_int (pa_cons pe_int (pa_cons pe_int pa_nil))))) pa_nil)))))
          (pss_cons (ps_expr (pe_bm PySem.F.plainAttrs_list PySem.F.slot_list_append PySem.F.type_list_append mt_append (pv 3) (pa_cons (pe_tup (pa_cons (pv 4) (pa_cons (pv 6) pa_nil))) pa_nil)))
          (pss_one (ps_set (i := 4) nd rfl (.inl rfl) (pe_op op_add (pv 4) pe_int))))))
        (pss_cons (ps_set (i := 4) nd rfl (.inl rfl) (pe_op op_add (pv 4) (pe_call G_law_pick hr (by rfl) g_law_pick K_law_pick b_law_pick .nil pass0 (pa_cons (pv 0) (pa_cons (pe_lst (pa_cons pe_int (pa_cons pe_int (pa_cons pe_int (pa_cons pe_int pa_nil))))) pa_nil)))))
        (Evl.pss_cut (ps_if (PW.pt (pw_and (pt_cmpR op_lt (pv 4) pe_int (nomark _)) (pw_and1 (pt_cmpR op_eq (pe_call G_law_draw hr (by rfl) g_law_draw K_law_draw b_law_draw .nil pass0 (pa_cons (pv 0) (pa_cons pe_int pa_nil))) pe_int (nomark _)))))
        (pss_one (ps_set (i := 4) nd rfl (.inl rfl) (pe_op op_add (pv 4) pe_int)))
        pss_nil)
        (pss_one (ps_expr (pe_bm PySem.F.plainAttrs_list PySem.F.slot_list_append PySem.F.type_list_append mt_append (pv 2) (pa_cons (pv 4) pa_nil))))))))
      (Evl.pss_cut (ps_if (PW.pt (pw_and (pt_cmpR op_gt (pe_callB call_len_seq (by rfl) mlen PySem.boot_len (pa_cons (pv 2) pa_nil)) pe_int (nomark _)) (pw_and1 (pt_cmpR op_eq (pe_call G_law_draw hr (by rfl) g_law_draw K_law_draw b_law_draw .nil pass0 (pa_cons (pv 0) (pa_cons pe_int pa_nil))) pe_int (nomark _)))))
      (pss_one (ps_asg pe_int (pg_sub (pv 2) (pe_un un_neg pe_int) set_list)))
      pss_nil)
      (pss_one (ps_ret (pe_tup (pa_cons (pe_callTy call_tuple_of (by rfl) mtuple boot_tuple (pa_cons (pv 2) pa_nil)) (pa_cons (pe_callTy SC.call_tupleF (by rfl) mtuple boot_tuple (pa_cons (pv 3) pa_nil)) pa_nil)))))))))), ?_⟩
  refine ⟨h1000 (show 1 ≤ 1000 by decide), fun mb nmb => ⟨Nat.zero_le _, fun lb nlb => ?_⟩⟩
  have s1 := same_upd (o := .lst [.int 0]) nmb
  have s2 := same_upd (o := .lst []) nlb
  have nlH : H lb = none := s1.free nlb
  have hml : mb ≠ lb := ne_of_none (show upd H mb (.lst [.int 0]) mb = some (.lst [.int 0]) from upd_same) nlb
  have hmd := D.new nmb
  have hld := D.new nlH
  have s12 := s1.trans s2
  have hsm : so ≠ mb := ne_of_none S.at' nmb
  have hsl : so ≠ lb := ne_of_none S.at' nlH
  have Z1 : Zu K d c so N T H mb lb [0] [] 0 (upd (upd H mb (.lst [.int 0])) lb (.lst [])) :=
    ⟨⟨s2 _ _ upd_same, ⟨[], upd_same, .nil⟩, fun b ob _ _ n1 n2 e => s12 _ _ e⟩, ⟨.nil, fun e he => (nomatch he), List.pairwise_singleton _ _, fun m hm => by rw [List.mem_singleton.mp hm]; exact ⟨Int.le_refl _, Int.le_refl _⟩, rfl, Int.le_refl _⟩, D.same s12, S.same s12⟩
  revert Z1
  generalize upd (upd H mb (.lst [.int 0])) lb (.lst []) = H1
  intro Z1
  -- a draw of one of four
  have pick : ∀ {H' : Hp} {ms : List Int} {es : List En} {a M n4 : Int} {Q : VK}, Zu K d c so M T H mb lb ms es a H' → M < 2 ^ 60 → 1 ≤ n4 → (∀ H'' r, 0 ≤ r → r ≤ n4 → Zu K d c so (M + 1) T H mb lb ms es a H'' → Q (.int r) H'') →
      4 ≤ sizeLine ∧ ∀ l, H' l = none → sp_pick K [.ref d, .ref l] (upd H' l (.lst [.int 0, .int 0, .int 1, .int n4])) Q E0 := fun {H' ms es a M n4 Q} Z hM p1 hQ => by
    refine ⟨h1000 (show 4 ≤ 1000 by decide), fun l nl => .inl ⟨d, c, l, M, [.int 0, .int 0, .int 1, .int n4], rfl, ?_⟩⟩
    have sl := same_upd (o := .lst [.int 0, .int 0, .int 1, .int n4]) nl
    have hl := Z.dk.new nl
    have Z' := Z.same sl hmd hld ⟨hsd, hsc⟩
    refine ⟨Z'.dk, hM, .inl (.inl upd_same), List.cons_ne_nil _ _, by show 4 ≤ 1000; decide, hl.1, hl.2, fun H'' v k D' hv => ?_⟩
    have Z'' := Z'.draw k D' hmd hld ⟨hsd, hsc⟩
    rcases List.mem_cons.mp hv with rfl | hv
    · exact hQ H'' _ (by omega) (by omega) Z''
    rcases List.mem_cons.mp hv with rfl | hv
    · exact hQ H'' _ (by omega) (by omega) Z''
    rcases List.mem_cons.mp hv with rfl | hv
    · exact hQ H'' _ (by omega) (by omega) Z''
    rw [List.mem_singleton.mp hv]
    exact hQ H'' _ (by omega) (by omega) Z''
  have hT5 := S.len
  refine ⟨.ref so, rfl, so, rfl, ⟨_, .inl (.inl Z1.sm.at')⟩, ?_⟩
  refine for_list (xs := T.map fun t => V.ref t.1) (fun i σ H' => ∃ (a : Int) (y5 y6 : Option V) (ms : List Int) (es : List En), σ = [some (.ref d), some (.ref so), some (.ref mb), some (.ref lb), some (.int a), y5, y6] ∧ Zu K d c so (N + 10 * (i : Int)) T H mb lb ms es a H' ∧ a ≤ 9000 + 21 * (i : Int) ∧ ms.length = i + 1 ∧ es.length ≤ 6 * i) ?_ ?_ ?_ ?_
  · exact ⟨0, none, none, [0], [], rfl, by rw [show N + 10 * ((0 : Nat) : Int) = N by omega]; exact Z1, by omega, rfl, Nat.zero_le _⟩
  · rintro i σ H' _ ⟨_, _, _, _, _, rfl, Z, _⟩
    exact .inl (.inl Z.sm.at')
  · rintro i x σ H2 hx ⟨a, y5, y6, ms, es, rfl, Z2, ha, hms, hes⟩
    rw [List.getElem?_map] at hx
    obtain ⟨t, ht, rfl⟩ := Option.map_eq_some_iff.mp hx
    have htm := List.mem_of_getElem? ht
    have hi : i < T.length := (List.getElem?_eq_some_iff.mp ht).1
    have ht6 := (Z2.sm.tr t htm).2.1
    refine ⟨.ref t.1, rfl, t.1, rfl, ⟨_, .inl (.inl (Z2.sm.tr t htm).1)⟩, ?_⟩
    refine for_tup (xs := t.2.map (·.1)) (fun j σ H' => ∃ (b : Int) (y6 : Option V) (es : List En), σ = [some (.ref d), some (.ref so), some (.ref mb), some (.ref lb), some (.int b), some (.ref t.1), y6] ∧ Zu K d c so (N + 10 * (i : Int) + (j : Int)) T H mb lb ms es b H' ∧ b ≤ a + 3 * (j : Int) ∧ es.length ≤ 6 * i + j) ?_ ?_ ?_ ?_
    · exact ⟨a, y6, es, rfl, by rw [show N + 10 * (i : Int) + ((0 : Nat) : Int) = N + 10 * (i : Int) by omega]; exact Z2, by omega, hes⟩
    · rintro j σ H' _ ⟨_, _, _, rfl, Z, _⟩
      exact .inl (.inl (Z.sm.tr t htm).1)
    · rintro j x σ H3 hx ⟨b, y6, es, rfl, Z3, hb, hes3⟩
      rw [List.getElem?_map] at hx
      obtain ⟨s', hs, rfl⟩ := Option.map_eq_some_iff.mp hx
      have hj : j < t.2.length := (List.getElem?_eq_some_iff.mp hs).1
      refine ⟨.int b, rfl, .ref d, rfl, pick (n4 := 2) Z3 (by omega) (by decide) fun H'' r r0 r2 Z => ?_⟩
      refine ⟨b, r, rfl, rfl, ?_⟩
      obtain ⟨rs0, hl0, he0⟩ := Z.he.hl
      refine ⟨.ref lb, rfl, .inl ⟨rfl, _, .inl (.inl hl0)⟩, .int (b + r), rfl, s'.1, rfl, h1000 (show 2 ≤ 1000 by decide), fun r' nr => ?_⟩
      have s4 := same_upd (o := .tup [.int (b + r), s'.1]) nr
      have hr4 : upd H'' r' (.tup [.int (b + r), s'.1]) r' = some (.tup [.int (b + r), s'.1]) := upd_same
      have Z4 := Z.same s4 hmd hld ⟨hsd, hsc⟩
      revert s4 hr4 Z4
      generalize upd H'' r' (.tup [.int (b + r), s'.1]) = H4
      intro s4 hr4 Z4
      have hsv := (Z4.sm.tr t htm).2.2 s' (List.mem_of_getElem? hs)
      obtain ⟨rs, hl5, hl6, h5⟩ := Z4.he.line (e := (b + r, s'.1, s'.2)) hml ⟨hr4, hsv⟩
      refine ⟨lb, _, .ref r', rfl, rfl, hl5, small1000 (by rw [List.length_map, hl6]; omega), ?_⟩
      have nu5 := (Z4.nu.more (b := b + r) (by omega)).line s'.1 s'.2
      have D5 := Z4.dk.upd (o := .lst (rs.map V.ref ++ [.ref r'])) hld.1 hld.2
      have S5 := Z4.sm.upd (zs := rs.map V.ref ++ [.ref r']) hl5 hsl
      refine ⟨.int (b + r), rfl, b + r, 1, rfl, rfl, b + r + 1, some s'.1, _, rfl, ⟨h5, nu5, ?_, S5⟩, by omega, ?_⟩
      · exact D5.mono (by omega)
      · rw [List.length_append, List.length_singleton]; omega
    · rintro σ H3 ⟨b, y6, es, rfl, Z3, hb, hes3⟩
      rw [List.length_map] at Z3 hb hes3
      refine ⟨.int b, rfl, .ref d, rfl, pick (n4 := 3) Z3 (by omega) (by decide) fun H'' r r0 r2 Z => ?_⟩
      refine ⟨b, r, rfl, rfl, ?_⟩
      refine ⟨fun σ' H' => ∃ a' : Int, σ' = [some (.ref d), some (.ref so), some (.ref mb), some (.ref lb), some (.int a'), some (.ref t.1), y6] ∧ Zu K d c so (N + 10 * (i : Int) + 9) T H mb lb ms es a' H' ∧ a' ≤ 9000 + 21 * ((i + 1 : Nat) : Int), ?_, ?_⟩
      · have Zm : ∀ {a' H'}, Zu K d c so (N + 10 * (i : Int) + 9) T H mb lb ms es a' H' → Zu K d c so (N + 10 * (i : Int) + 9) T H mb lb ms es a' H' := fun z => z
        refine ⟨.int (b + r), rfl, b + r, 5000, rfl, rfl, _, rfl, ?_⟩
        by_cases c1 : b + r < 5000
        · rw [decide_eq_true c1]
          refine iteT ⟨.ref d, rfl, d, c, _, 8, rfl, Z.dk, by omega, by decide, by decide, fun H4 j k4 D4 j0 j8 => ⟨rfl, _, rfl, ?_⟩⟩
          have Z4 := Z.draw k4 D4 hmd hld ⟨hsd, hsc⟩
          rw [dec_int]
          cases (j == 5) with
          | true => exact iteT ⟨.int (b + r), rfl, b + r, 4000, rfl, rfl, b + r + 4000, rfl, ⟨Z4.he, Z4.nu.more (by omega), Z4.dk.mono (by omega), Z4.sm⟩, by omega⟩
          | false => exact iteF ⟨b + r, rfl, ⟨Z4.he, Z4.nu.more (by omega), Z4.dk.mono (by omega), Z4.sm⟩, by omega⟩
        · rw [decide_eq_false c1]
          exact iteF ⟨b + r, rfl, ⟨Z.he, Z.nu.more (by omega), Z.dk.mono (by omega), Z.sm⟩, by omega⟩
      · rintro σ' H4 ⟨a', rfl, Z4, ha'⟩
        refine ⟨.ref mb, rfl, .inl ⟨rfl, _, .inl (.inl Z4.he.hm)⟩, .int a', rfl, mb, _, .int a', rfl, rfl, Z4.he.hm, small1000 (by rw [List.length_map]; omega), ?_⟩
        have hm5 := Z4.he.marks (ms' := ms ++ [a']) hml
        rw [List.map_append] at hm5
        refine ⟨a', some (.ref t.1), y6, ms ++ [a'], es, rfl, ⟨hm5, Z4.nu.mark, (Z4.dk.upd hmd.1 hmd.2).mono (by omega), Z4.sm.upd Z4.he.hm hsm⟩, ha', by rw [List.length_append, hms]; rfl, by omega⟩
  · rintro σ H2 ⟨a, y5, y6, ms, es, rfl, Z2, ha, hms, hes⟩
    rw [List.length_map] at Z2 ha hms hes
    refine ⟨fun σ' H' => ∃ ms' : List Int, σ' = [some (.ref d), some (.ref so), some (.ref mb), some (.ref lb), some (.int a), y5, y6] ∧ He K d c H mb lb ms' es H' ∧ Deck H' d c (N + 99) ∧ OkL ms' es, ?_, ?_⟩
    · refine ⟨.ref mb, rfl, mb, _, rfl, .inl (.inl (.inl Z2.he.hm)), _, 1, rfl, rfl, _, rfl, ?_⟩
      rw [List.length_map, hms]
      by_cases c1 : (1 : Int) < ((T.length + 1 : Nat) : Int)
      · rw [decide_eq_true c1]
        refine iteT ⟨.ref d, rfl, d, c, _, 8, rfl, Z2.dk, by omega, by decide, by decide, fun H4 j k4 D4 j0 j8 => ⟨rfl, _, rfl, ?_⟩⟩
        have Z4 := Z2.draw k4 D4 hmd hld ⟨hsd, hsc⟩
        rw [dec_int]
        cases (j == 5) with
        | true =>
          refine iteT ⟨.ref mb, rfl, 1, rfl, mb, _, -1, T.length, rfl, rfl, Z4.he.hm, ?_, ?_⟩
          · rw [List.length_map, hms]
            unfold ixN
            rw [if_neg (by decide), if_pos (by omega)]
            congr 1
            omega
          · have e1 : (ms.map V.int).set T.length (.int 10000) = (ms.set T.length 10000).map V.int := (List.map_set).symm
            rw [e1]
            have hl' := Z4.nu.last (by omega) (by omega) (by omega) (by omega)
            rw [hms, Nat.add_sub_cancel] at hl'
            exact ⟨_, rfl, Z4.he.marks hml, (Z4.dk.upd hmd.1 hmd.2).mono (by omega), hl'⟩
        | false => exact iteF ⟨ms, rfl, Z4.he, Z4.dk.mono (by omega), Z4.nu.ok (by omega) (by omega) (by omega)⟩
      · rw [decide_eq_false c1]
        exact iteF ⟨ms, rfl, Z2.he, Z2.dk.mono (by omega), Z2.nu.ok (by omega) (by omega) (by omega)⟩
    · rintro σ' H3 ⟨ms', rfl, h3, D3, ok⟩
      obtain ⟨rs, hl0, he0⟩ := h3.hl
      refine ⟨.ref mb, rfl, mb, _, rfl, .inl ⟨.inl (.inl h3.hm), fun mp nmp => ?_⟩⟩
      have s3 := same_upd (o := .tup (ms'.map V.int)) nmp
      refine ⟨.ref lb, rfl, lb, _, rfl, .inl (.inl (s3 _ _ hl0)), fun ep o ho nep => ⟨h1000 (show 2 ≤ 1000 by decide), fun p np => ?_⟩⟩
      have s4 := same_upd (o := .frz o (.tup (rs.map V.ref))) nep
      have s5 := same_upd (o := .tup [.ref mp, .ref ep]) np
      have s345 := (s3.trans s4).trans s5
      refine q _ p ms' es (fun b ob n1 n2 e => s345 _ _ (h3.old b ob n1 n2 (ne_of_none e nmb) (ne_of_none e nlH) e)) ((D3.same s345).mono (by omega)) ⟨mp, ep, rs, upd_same, (s4.trans s5) _ _ upd_same, ⟨o, s5 _ _ upd_same, ho⟩, ens_keep (KeepT.of s345) he0⟩ ok
end
end L16

namespace GR
open PySem PySem.Spec PyProof.Rows L2
/-- repr of None, an int of few bits, a list or a tuple -/
def rReprV (K : PySem.W.Frag) : List V → Hp → VK → Prop := fun xs H Q => ∃ (v : V) (d : PyData), xs = [v] ∧ ((v = .non ∧ d = .none) ∨ (∃ i : Int, v = .int i ∧ d = .int i ∧ i.natAbs.log2 < 1920) ∨ ∃ a, v = .ref a ∧ Dp K H (.ref a) d ∧ d.showable = true ∧ d.depth ≤ 60 ∧ d.shown.length ≤ sizeLine) ∧ Q (.str d.shown) H
theorem call_reprV {X : Cx} {k : Nat} (hg : X.A.guards = some []) (hr : Room k X.A) : CallR X (.builtin "repr") (rReprV X.K) := by
  intro pins s σ H xs us Q I r h
  obtain ⟨v, d, rfl, ⟨rfl, rfl⟩ | ⟨i, rfl, rfl, hi⟩ | ⟨a, rfl, h1, h2, h3, h4⟩, q⟩ := h
  · obtain ⟨u, rfl, rv⟩ := vals1 r
    obtain rfl : u = Value.none := rv
    rw [PyData.shown_none] at q
    exact PySem.P.repr_of_none ⟨.str _, H, I.tok _, ⟨_, rfl⟩, q⟩
  · obtain ⟨u, rfl, t, rfl⟩ := vals1 r
    rw [PyData.shown_int] at q
    exact PySem.P.repr_of_int hi ⟨.str _, H, I.tok _, ⟨_, rfl⟩, q⟩
  · exact call_reprD hg hr pins s σ H _ us Q I r ⟨a, d, rfl, h1, h2, h3, h4, q⟩
end GR

namespace L16
open PySem PySem.Spec PyProof.Rows L2 GR
def plK (es : List En) : List (Key × V) := es.map fun e => (.inl e.1, e.2.1)
theorem putK_new {acc : List (Key × V)} {k : Key} {v : V} (h : ∀ q, q ∈ acc → q.1 ≠ k) : putK acc k v = acc ++ [(k, v)] := by
  unfold putK
  rw [if_neg]
  intro z
  obtain ⟨q, hq, e⟩ := List.any_eq_true.mp z
  exact h q hq (of_decide_eq_true e)
theorem merge_new : ∀ (more acc : List (Key × V)), (∀ p, p ∈ more → ∀ q, q ∈ acc → q.1 ≠ p.1) → (more.map (·.1)).Nodup → mergeK acc more = acc ++ more
  | [], acc, _, _ => (List.append_nil _).symm
  | p :: more, acc, h, hn => by
    rw [List.map_cons, List.nodup_cons] at hn
    show mergeK (putK acc p.1 p.2) more = _
    rw [putK_new (h p List.mem_cons_self), merge_new more (acc ++ [(p.1, p.2)]) (fun x hx q hq => ?_) hn.2, List.append_assoc]
    · rfl
    · rcases List.mem_append.mp hq with hq | hq
      · exact h x (List.mem_cons_of_mem _ hx) q hq
      · rw [List.mem_singleton.mp hq]
        intro z
        exact hn.1 (List.mem_map.mpr ⟨x, hx, z.symm⟩)
theorem plK_merge {es : List En} (ha : (es.map (·.1)).Pairwise (· < ·)) : mergeK [] (plK es) = plK es := by
  have : (plK es).map (·.1) = (es.map (·.1)).map Sum.inl := by
    unfold plK
    rw [List.map_map, List.map_map]
    rfl
  have hn : ((plK es).map (·.1)).Nodup := by
    rw [this]
    refine List.pairwise_map.mpr (ha.imp fun {a b} h z => ?_)
    injection z with z
    omega
  exact merge_new (plK es) [] (fun p _ q hq => absurd hq (by simp)) hn
theorem plK_val : ∀ (es : List En) (n : Int), (valV (plK es) (.inl n)).getD .non = stAt es n
  | [], n => rfl
  | e :: es, n => by
    have ih := plK_val es n
    show (valV ((.inl e.1, e.2.1) :: plK es) (.inl n)).getD .non = _
    rw [stAt]
    by_cases c : e.1 = n
    · rw [if_pos c, valV_pos (by show (Sum.inl e.1 : Key) = _; rw [c])]
      rfl
    · rw [if_neg c, valV_neg (fun z => c (by injection z)), ih]
theorem ens_pairs {K : PySem.W.Frag} {H : Hp} : ∀ {rs : List Addr} {es : List En}, EnsOk K H rs es → Paired (fun p kv => SqT K H p [kV kv.1, kv.2]) rs (plK es)
  | _, _, .nil => .nil
  | _, _, .cons h t => .cons (.inl (.inl h.1)) (ens_pairs t)
/-- what stands at a place may be shown -/
theorem stAt_shown {K : PySem.W.Frag} {H : Hp} : ∀ {rs : List Addr} {es : List En}, EnsOk K H rs es → ∀ n, ∃ d : PyData, (stAt es n = .non ∧ d = .none) ∨ ((∃ a, stAt es n = .ref a) ∧ Dp K H (stAt es n) d ∧ Fine 8 12000 d)
  | _, _, .nil, n => ⟨_, .inl ⟨rfl, rfl⟩⟩
  | _, _, .cons (b := e) h t, n => by
    rw [stAt]
    split
    · obtain ⟨h1, h2⟩ := sv_dp h.2
      obtain ⟨p, _, _, _, e1, _⟩ := h.2
      exact ⟨e.2.2, .inr ⟨⟨p, e1⟩, h1, h2⟩⟩
    · exact stAt_shown t n
section
variable {P : Program} {w : World} {K : PySem.W.Frag} {mg : Str → Option Value} {base : Heap}
abbrev s_law_statements_right : Stmt := topS 18
abbrev N_str : List Str := ["_law_made", "_law_places", "_law_near", "_law_position"]
theorem sc_law_statements_right : FnScope N_str ["_law_made"] (defScope s_law_statements_right) := ⟨rfl, rfl, rfl, by decide +kernel, rfl, by decide +kernel, by decide +kernel⟩
def sp_lg (K : PySem.W.Frag) : Sp := fun vs H Q _ => ∃ (p : Addr) (ms : List Int) (es : List En), vs = [.ref p] ∧ LgF K H p ms es ∧ OkL ms es ∧ ∀ H', Same H H' → Q (.bl true) H'
theorem ok_statements_right {f f_s : Addr} {fd d_s : FuncData} {k : Nat} (F : Fun K "_law_statements_right" "_law_statements_right" s_law_statements_right f fd)
    (G : FnOk P w K mg base CX0 k f_s d_s ["log", "position"] (sp_sat K)) (g : mg "statement_at" = some (.ref f_s)) (Kf : PySem.W.keepIn K (.ref f_s) = true) (b : Binds K d_s ["log", "position"] [])
    (mdict : mg "dict" = none) (mmin : mg "min" = none) (mmax : mg "max" = none) (mrepr : mg "repr" = none) : FnG P w K mg base CX0 (k + 1) f fd ["_law_made"] (sp_lg K) := by
  have nd := sc_law_statements_right.nd
  refine ok_g F sc_law_statements_right (fun vs H Q E h => ?_) (fun cdv A outer s H vs Q E hg hr h => ?_)
  · obtain ⟨p, ms, es, rfl, _⟩ := h
    rfl
  obtain ⟨p, ms, es, rfl, L, ok, q⟩ := h
  refine ⟨_, (pss_cons (ps_set (i := 1) nd rfl (.inl rfl) (pe_callTy (SC.call_dictT rfl) (by rfl) mdict boot_dict (pa_cons (pe_ix ix_tup (pv 0) pe_int (fun _ _ => rfl)) pa_nil)))
      (pss_cons (ps_set (i := 2) nd rfl (.inl rfl) (pe_lst (pa_cons (pe_ix ix_tup (pe_ix ix_tup (pv 0) pe_int (fun _ _ => rfl)) (pe_un un_neg pe_int) (fun _ _ => rfl)) (pa_cons (pe_callB (call_min2 rfl) (by rfl) mmin boot_min (pa_cons pe_int (pa_cons (pe_op op_add (pe_ix ix_tup (pe_ix ix_tup (pv 0) pe_int (fun _ _ => rfl)) (pe_un un_neg pe_int) (fun _ _ => rfl)) pe_int) pa_nil))) pa_nil))))
      (pss_cons (ps_lock (ps_for PassesOwn.never rfl (pi_keys (pv 1)) (pg_name (i := 3) nd rfl (Or.inl rfl))
      (pss_one (ps_set (i := 2) nd rfl (.inl rfl) (pe_op op_cat (pv 2) (pe_lst (pa_cons (pv 3) (pa_cons (pe_op op_add (pv 3) pe_int) (pa_cons (pe_callB (call_max2 rfl) (by rfl) mmax boot_max (pa_cons pe_int (pa_cons (pe_op op_sub (pv 3) pe_int) pa_nil))) pa_nil)))))))))
      (pss_cons (ps_for PassesOwn.never rfl (pi_list (pv 2)) (pg_name (i := 3) nd rfl (Or.inl rfl))
      (pss_one (ps_if (pt_cmpR op_ne (pe_callB (call_reprV hg hr) (by rfl) mrepr boot_repr (pa_cons (pe_call G hr (by rfl) g Kf b .nil pass0 (pa_cons (pv 0) (pa_cons (pv 3) pa_nil))) pa_nil)) (pe_callB (call_reprV hg hr) (by rfl) mrepr boot_repr (pa_cons (pe_dget1 (hu_of hr) (pv 1) (pv 3) ⟨by rfl, by rfl, by rfl, by rfl⟩) pa_nil)) (nomark _))
        (pss_one (ps_ret pe_bl))
        pss_nil)))
      (pss_one (ps_ret pe_bl)))))), ?_⟩
  obtain ⟨mp, ep, rs, h1, h2, h3, h4⟩ := id L
  have hl := ens_len h4
  refine ⟨.ref p, rfl, p, _, 1, .ref ep, rfl, rfl, .inl (.inl h1), rfl, ep, rs, plK es, rfl, h3, ens_pairs h4, fun d nd1 => ?_⟩
  rw [plK_merge ok.asc]
  have sd := same_upd (o := .dK (plK es)) nd1
  have hd1 : upd H d (.dK (plK es)) d = some (.dK (plK es)) := upd_same
  have L1 := L.keep (KeepT.of sd)
  revert sd hd1 L1
  generalize upd H d (.dK (plK es)) = H1
  intro sd hd1 L1
  obtain ⟨fr, lm, rfl⟩ : ∃ fr lm, ms = fr ++ [lm] := ⟨ms.dropLast, ms.getLast (fun z => by have := ok.m0; rw [z] at this; exact nomatch this), (List.dropLast_concat_getLast _).symm⟩
  have hmt : SqT K H1 mp ((fr.map V.int) ++ [.int lm]) := .inl (.inl (sd _ _ (by rw [← List.map_singleton (f := V.int), ← List.map_append]; exact h2)))
  have hp1 : SqT K H1 p [.ref mp, .ref ep] := .inl (.inl (sd _ _ h1))
  refine ⟨.ref p, rfl, p, _, 0, .ref mp, rfl, rfl, hp1, rfl, 1, rfl, mp, _, -1, .int lm, rfl, rfl, hmt, atI_last _ _, .ref p, rfl, p, _, 0, .ref mp, rfl, rfl, hp1, rfl, 1, rfl, mp, _, -1, .int lm, rfl, rfl, hmt, atI_last _ _, lm, 1, rfl, rfl, 10000, lm + 1, rfl, h1000 (show 2 ≤ 1000 by decide), fun nr nnr => ?_⟩
  have sn := same_upd (o := .lst [.int lm, .int (if lm + 1 < 10000 then lm + 1 else 10000)]) nnr
  have hn : upd H1 nr (.lst [.int lm, .int (if lm + 1 < 10000 then lm + 1 else 10000)]) nr = some (.lst ([lm, if lm + 1 < 10000 then lm + 1 else 10000].map V.int)) := upd_same
  have L2' := L1.keep (KeepT.of sn)
  have hd2 := sn _ _ hd1
  have s2 := sd.trans sn
  revert hn L2' hd2 s2
  generalize upd H1 nr (.lst [.int lm, .int (if lm + 1 < 10000 then lm + 1 else 10000)]) = H2
  intro hn L2' hd2 s2
  refine ⟨d, .dK (plK es), hd2, trivial, fun od => ⟨.ref d, rfl, d, od, rfl, .inl ⟨plK es, upd_same, ?_⟩⟩⟩
  refine for_it walk_keys (fun i σ H' => ∃ (nr : Addr) (ns : List Int) (y3 : Option V), σ = [some (.ref p), some (.ref d), some (.ref nr), y3] ∧ H' d = some (.frz od (.dK (plK es))) ∧ H' nr = some (.lst (ns.map V.int)) ∧ ns.length = 2 + 3 * i ∧ ∀ b o, b ≠ d → H2 b = some o → H' b = some o) ?_ ?_ ?_ ?_
  · exact ⟨nr, _, none, rfl, upd_same, by rw [upd_ne (fun z => by rw [z] at hn; rw [hn] at hd2; cases hd2)]; exact hn, rfl, fun b o nb e => by rw [upd_ne nb]; exact e⟩
  · rintro i σ H' _ ⟨_, _, _, rfl, h, _⟩
    exact h
  · rintro i x σ H3 H' hi ⟨nr3, ns, y3, rfl, hd3, hn3, hl3, kp⟩ ⟨rfl, k', v', hk, rfl⟩
    obtain ⟨e, he, hke⟩ : ∃ e : En, es[i]? = some e ∧ k' = .inl e.1 := by
      unfold plK at hk
      rw [List.getElem?_map] at hk
      obtain ⟨e, he, e2⟩ := Option.map_eq_some_iff.mp hk
      injection e2 with e2 e3
      exact ⟨e, he, e2.symm⟩
    subst hke
    have hi30 : i < 30 := by
      have h30 := ok.el
      have : i < es.length := (List.getElem?_eq_some_iff.mp he).1
      omega
    refine ⟨.ref nr3, rfl, .int e.1, rfl, .int e.1, rfl, e.1, 1, rfl, rfl, .int e.1, rfl, e.1, 1, rfl, rfl, 0, e.1 - 1, rfl, h1000 (show 3 ≤ 1000 by decide), fun l nl => ?_⟩
    have sl := same_upd (o := .lst [.int e.1, .int (e.1 + 1), .int (if e.1 - 1 > 0 then e.1 - 1 else 0)]) nl
    refine ⟨nr3, l, _, _, rfl, rfl, sl _ _ hn3, upd_same, h1000 (by rw [List.length_map, hl3]; show _ + 3 ≤ 1000; omega), fun r nr' => ?_⟩
    have sr := same_upd (o := .lst (ns.map V.int ++ [.int e.1, .int (e.1 + 1), .int (if e.1 - 1 > 0 then e.1 - 1 else 0)])) nr'
    exact ⟨r, ns ++ [e.1, e.1 + 1, if e.1 - 1 > 0 then e.1 - 1 else 0], _, rfl, sr _ _ (sl _ _ hd3), by rw [List.map_append]; exact upd_same, by rw [List.length_append, hl3]; show 2 + 3 * i + 3 = _; omega, fun b o nb e => sr _ _ (sl _ _ (kp b o nb e))⟩
  · rintro σ H3 ⟨nr3, ns, y3, rfl, hd3, hn3, hl3, kp⟩
    refine ⟨hd3, ?_⟩
    have nrd : nr3 ≠ d := fun z => by rw [z, hd3] at hn3; cases hn3
    have sm4 : Same H2 (upd H3 d (.dK (plK es))) := fun b o e => by
      by_cases hb : b = d
      · subst hb
        rw [upd_same, ← hd2, e]
      · rw [upd_ne hb]
        exact kp b o hb e
    have hn4 : upd H3 d (.dK (plK es)) nr3 = some (.lst (ns.map V.int)) := by rw [upd_ne nrd]; exact hn3
    have hd4 : upd H3 d (.dK (plK es)) d = some (.dK (plK es)) := upd_same
    revert sm4 hn4 hd4
    generalize upd H3 d (.dK (plK es)) = H4
    intro sm4 hn4 hd4
    have L4 := (L2'.keep (KeepT.of sm4)).lg
    have sHH := s2.trans sm4
    have h44 := ens_keep (KeepT.of sHH) h4
    refine ⟨.ref nr3, rfl, nr3, rfl, ⟨_, .inl (.inl hn4)⟩, ?_⟩
    refine for_list (xs := ns.map V.int) (fun i σ H' => H' = H4 ∧ ∃ y3, σ = [some (.ref p), some (.ref d), some (.ref nr3), y3]) ?_ ?_ ?_ ?_
    · exact ⟨rfl, _, rfl⟩
    · rintro i σ H' _ ⟨rfl, _⟩
      exact .inl (.inl hn4)
    · rintro i x σ H' hx ⟨rfl, y3, rfl⟩
      rw [List.getElem?_map] at hx
      obtain ⟨n, hn, rfl⟩ := Option.map_eq_some_iff.mp hx
      obtain ⟨dd, hdd⟩ := stAt_shown h44 n
      have shown : ∀ R : VK, R (.str dd.shown) H' → rReprV K [stAt es n] H' R := fun R hR => by
        refine ⟨stAt es n, dd, rfl, ?_, hR⟩
        rcases hdd with z | ⟨⟨a, ea⟩, z1, z2⟩
        · exact .inl z
        · refine .inr (.inr ⟨a, ea, ea ▸ z1, z2.shw, Nat.le_trans z2.dep (by decide), ?_⟩)
          have z3 := z2.len
          have : dd.shown.length + 2 ≤ 12000 := z3
          have z24 : sizeLine = 16777216 := by decide
          omega
      refine ⟨.ref p, rfl, .int n, rfl, p, n, _, es, rfl, L4, ?_⟩
      dsimp only [tNil]
      refine shown _ ?_
      refine ⟨.ref d, rfl, d, rfl, .inl ⟨_, .inl hd4⟩, .int n, rfl, _, DGet.k (k := .inl n) hd4, ?_⟩
      rw [plK_val]
      dsimp only [tNil]
      refine shown _ ?_
      refine ⟨rfl, _, rfl, ?_⟩
      rw [decide_eq_true rfl]
      exact iteF ⟨rfl, _, rfl⟩
    · rintro σ H' ⟨rfl, y3, rfl⟩
      exact q _ sHH
end
end L16

namespace L16
open PySem PySem.Spec PyProof.Rows L2 GR
theorem merge_val {PV : V → Prop} : ∀ (more acc : List (Key × V)), (∀ k v, valV acc k = some v → PV v) → (∀ x, x ∈ more → PV x.2) → ∀ k v, valV (mergeK acc more) k = some v → PV v
  | [], acc, h, _, k, v, e => h k v e
  | x :: more, acc, h, h2, k, v, e => by
    refine merge_val more (putK acc x.1 x.2) (fun k' v' e' => ?_) (fun y hy => h2 y (List.mem_cons_of_mem _ hy)) k v e
    rw [valV_put] at e'
    split at e'
    · cases e'
      exact h2 x List.mem_cons_self
    · exact h k' v' e'
theorem merge_key {PK : Key → Prop} : ∀ (more acc : List (Key × V)), (∀ x, x ∈ acc → PK x.1) → (∀ x, x ∈ more → PK x.1) → ∀ x, x ∈ mergeK acc more → PK x.1
  | [], acc, h, _, x, hx => h x hx
  | y :: more, acc, h, h2, x, hx => by
    refine merge_key more (putK acc y.1 y.2) (fun z hz => ?_) (fun z hz => h2 z (List.mem_cons_of_mem _ hz)) x hx
    unfold putK at hz
    split at hz
    · obtain ⟨q, hq, rfl⟩ := List.mem_map.mp hz
      have := h q hq
      split <;> exact this
    · rcases List.mem_append.mp hz with hz | hz
      · exact h z hz
      · rw [List.mem_singleton.mp hz]
        exact h2 y List.mem_cons_self
theorem lets_all {H : Hp} {lo hi : Int} : ∀ {es : List En}, (∀ e, e ∈ es → 0 ≤ e.1 ∧ e.1 ≤ 10000) → ∀ x, x ∈ letsOf H lo hi es → (∃ z, x.1 = .inr z) ∧ ∃ m : Int, x.2 = .int m ∧ 0 ≤ m ∧ m ≤ 10000
  | [], _, x, hx => (nomatch hx)
  | e :: es, h, x, hx => by
    have ih := lets_all (H := H) (lo := lo) (hi := hi) fun y hy => h y (List.mem_cons_of_mem _ hy)
    rw [letsOf] at hx
    split at hx
    · split at hx
      · rcases List.mem_cons.mp hx with rfl | hx
        · exact ⟨⟨_, rfl⟩, e.1, rfl, h e List.mem_cons_self⟩
        · exact ih x hx
      · exact ih x hx
    · exact ih x hx
theorem valV_has {kvs : List (Key × V)} {j : Nat} {k : Key} {v : V} (h : kvs[j]? = some (k, v)) : ∃ u, valV kvs k = some u := by
  cases e : valV kvs k with
  | some u => exact ⟨u, rfl⟩
  | none => exact absurd (List.mem_map_of_mem (List.mem_of_getElem? h)) (valV_not e)
theorem log_small {m : Int} (h1 : 0 ≤ m) (h2 : m ≤ 10000) : m.natAbs.log2 < 1920 := by
  by_cases e : m.natAbs = 0
  · rw [e]; decide
  · exact Nat.lt_trans ((Nat.log2_lt e).mpr (show m.natAbs < 2 ^ 14 by omega)) (by decide)
/-- the low mark of what stands between two marks -/
theorem low_at {ms : List Int} (hm : ms.Pairwise (· ≤ ·)) {j : Nat} {lo hi n : Int} (h1 : ms[j]? = some lo) (h2 : ms[j + 1]? = some hi) (a : lo ≤ n) (b : n < hi) : LowM ms n lo := by
  refine ⟨List.mem_of_getElem? h1, a, fun m hmem hmn => ?_⟩
  obtain ⟨i, hi', e⟩ := List.mem_iff_getElem.mp hmem
  obtain ⟨k1, e1⟩ := List.getElem?_eq_some_iff.mp h1
  obtain ⟨k2, e2⟩ := List.getElem?_eq_some_iff.mp h2
  have pw := List.pairwise_iff_getElem.mp hm
  by_cases c : i ≤ j
  · by_cases c2 : i = j
    · subst c2
      rw [← e, e1]
      exact Int.le_refl _
    · rw [← e, ← e1]
      exact pw i j hi' k1 (by omega)
  · exfalso
    by_cases c2 : i = j + 1
    · subst c2
      rw [← e, e2] at hmn
      omega
    · have := pw (j + 1) i k2 hi' (by omega)
      rw [e, e2] at this
      omega
theorem cut_init {xs : List V} (h : 1 ≤ xs.length) : cutV xs none (some (-1)) = xs.take (xs.length - 1) ∧ ¬ (HT.sIx xs.length 0 none = 0 ∧ HT.sIx xs.length xs.length (some (-1)) = xs.length) := by
  have e : HT.sIx xs.length xs.length (some (-1)) = xs.length - 1 := by
    show (if (-1 : Int) < 0 then (-1 + (xs.length : Int)).toNat else min (-1 : Int).toNat xs.length) = _
    rw [if_pos (by decide)]
    omega
  refine ⟨?_, fun z => ?_⟩
  · unfold cutV
    rw [e, HT.sIx_none, List.drop_zero, Nat.sub_zero]
  · rw [e] at z
    omega
theorem cut_tail {xs : List V} (h : 1 ≤ xs.length) : cutV xs (some 1) none = xs.drop 1 ∧ ¬ (HT.sIx xs.length 0 (some 1) = 0 ∧ HT.sIx xs.length xs.length none = xs.length) := by
  have e : HT.sIx xs.length 0 (some 1) = 1 := by
    rw [show HT.sIx xs.length 0 (some 1) = min 1 xs.length from HT.sIx_nat _ _ 1]
    omega
  refine ⟨?_, fun z => ?_⟩
  · unfold cutV
    rw [e, HT.sIx_none]
    exact List.take_of_length_le (by rw [List.length_drop]; exact Nat.le_refl _)
  · rw [e] at z
    omega
end L16

namespace L16
open PySem PySem.Spec PyProof.Rows L2 GR RZ
section
variable {P : Program} {w : World} {K : PySem.W.Frag} {mg : Str → Option Value} {base : Heap}
abbrev s_law_lets_right : Stmt := topS 19
abbrev N_lr : List Str := ["_law_made", "_law_low", "_law_high", "_law_known", "_law_position", "_law_statement_here", "_law_name"]
theorem sc_law_lets_right : FnScope N_lr ["_law_made"] (defScope s_law_lets_right) := ⟨rfl, rfl, rfl, by decide +kernel, rfl, by decide +kernel, by decide +kernel⟩
theorem ok_lets_right {f f_l : Addr} {fd d_l : FuncData} {k : Nat} (F : Fun K "_law_lets_right" "_law_lets_right" s_law_lets_right f fd)
    (G : FnOk P w K mg base CX0 k f_l d_l N_lof (sp_lof K)) (g : mg "let_of" = some (.ref f_l)) (Kf : PySem.W.keepIn K (.ref f_l) = true) (b : Binds K d_l N_lof [])
    (mzip : mg "zip" = none) (mrepr : mg "repr" = none) : FnG P w K mg base CX0 (k + 1) f fd ["_law_made"] (sp_lg K) := by
  have nd := sc_law_lets_right.nd
  refine ok_g F sc_law_lets_right (fun vs H Q E h => ?_) (fun cdv A outer s H vs Q E hg hr h => ?_)
  · obtain ⟨p, ms, es, rfl, _⟩ := h
    rfl
  obtain ⟨p, ms, es, rfl, L, ok, q⟩ := h
  refine ⟨_, (pss_cons (ps_for PassesOwn.never rfl (pi_zipA (by rfl) mzip (pa_cons (pe_slice L2.sl_tup (pe_ix ix_tup (pv 0) pe_int (fun _ _ => rfl)) po_none (po_some (pe_un un_neg pe_int))) (pa_cons (pe_slice L2.sl_tup (pe_ix ix_tup (pv 0) pe_int (fun _ _ => rfl)) (po_some pe_int) po_none) pa_nil))) (pg_tup rfl (pgs_cons (pg_name (i := 1) nd rfl (Or.inl rfl)) (pgs_cons (pg_name (i := 2) nd rfl (Or.inl rfl)) pgs_nil)))
      (pss_cons (ps_set (i := 3) nd rfl (.inl rfl) pe_dnewK)
        (pss_one (ps_for PassesOwn.never rfl (pi_tup (pe_ix ix_tup (pv 0) pe_int (fun _ _ => rfl))) (pg_tup rfl (pgs_cons (pg_name (i := 4) nd rfl (Or.inl rfl)) (pgs_cons (pg_name (i := 5) nd rfl (Or.inl rfl)) pgs_nil)))
        (pss_one (ps_if (pt_chain op_le op_lt (pv 1) (pv 4) (pv 2))
          (pss_cons (ps_lock (ps_for PassesOwn.never rfl (pi_keys (pv 3)) (pg_name (i := 6) nd rfl (Or.inl rfl))
            (pss_one (ps_if (pt_cmpR op_ne (pe_callB (call_reprV hg hr) (by rfl) mrepr boot_repr (pa_cons (pe_call G hr (by rfl) g Kf b .nil pass0 (pa_cons (pv 0) (pa_cons (pv 4) (pa_cons (pv 6) pa_nil)))) pa_nil)) (pe_callB (call_reprV hg hr) (by rfl) mrepr boot_repr (pa_cons (pe_dget (hu_of hr) (pv 3) (pv 6) noSl_name) pa_nil)) (nomark _))
              (pss_one (ps_ret pe_bl))
              pss_nil))))
            (pss_one (ps_if (pt_cmpR op_eq (pe_ix ix_tup (pv 5) pe_int (fun _ _ => rfl)) pe_str (nomark _))
            (pss_one (ps_asg (pv 4) (pg_sub (pv 3) (pe_ix ix_tup (pv 5) pe_int (fun _ _ => rfl)) (set_dict (hu_of hr)))))
            pss_nil)))
          pss_nil))))))
      (pss_one (ps_ret pe_bl))), ?_⟩
  obtain ⟨mp, ep, rs, h1, h2, h3, h4⟩ := id L
  have hl := ens_len h4
  have hms : 1 ≤ (ms.map V.int).length := by
    rw [List.length_map]
    exact List.length_pos_of_mem ok.m0
  obtain ⟨c1, c1'⟩ := cut_init hms
  obtain ⟨c2, c2'⟩ := cut_tail hms
  refine ⟨.ref p, rfl, p, _, 0, .ref mp, rfl, rfl, .inl (.inl h1), rfl, 1, rfl, -1, rfl, mp, _, rfl, .inl (.inl h2), c1', fun z1 nz1 => ?_⟩
  rw [c1]
  have s1 := same_upd (o := .tup ((ms.map V.int).take ((ms.map V.int).length - 1))) nz1
  refine ⟨.ref p, rfl, p, _, 0, .ref mp, rfl, rfl, .inl (.inl (s1 _ _ h1)), rfl, _, rfl, mp, _, rfl, .inl (.inl (s1 _ _ h2)), c2', fun z2 nz2 => ?_⟩
  rw [c2]
  have s2 := same_upd (o := .tup ((ms.map V.int).drop 1)) nz2
  have hz1 := s2 _ _ (show upd H z1 (.tup ((ms.map V.int).take ((ms.map V.int).length - 1))) z1 = _ from upd_same)
  have hz2 : upd (upd H z1 (.tup ((ms.map V.int).take ((ms.map V.int).length - 1)))) z2 (.tup ((ms.map V.int).drop 1)) z2 = some (.tup ((ms.map V.int).drop 1)) := upd_same
  have s12 := s1.trans s2
  revert hz1 hz2 s12
  generalize upd (upd H z1 (.tup ((ms.map V.int).take ((ms.map V.int).length - 1)))) z2 (.tup ((ms.map V.int).drop 1)) = H1
  intro hz1 hz2 s12
  have L1 := L.keep (KeepT.of s12)
  have h41 := ens_keep (KeepT.of s12) h4
  refine ⟨z1, z2, (ms.map V.int).take ((ms.map V.int).length - 1), (ms.map V.int).drop 1, rfl, .inr ⟨.inl (.inl hz1), .inl (.inl hz2), ?_⟩⟩
  refine for_zipT (xs := (ms.map V.int).take ((ms.map V.int).length - 1)) (ys := (ms.map V.int).drop 1) (by rw [List.length_take, List.length_drop]; omega) (fun i σ H' => ∃ y1 y2 y3 y4 y5 y6, σ = [some (.ref p), y1, y2, y3, y4, y5, y6] ∧ Same H1 H') ?_ ?_ ?_ ?_
  · exact ⟨none, none, none, none, none, none, rfl, Same.refl _⟩
  · rintro i σ H' ⟨_, _, _, _, _, _, rfl, sm⟩
    exact ⟨.inl (.inl (sm _ _ hz1)), .inl (.inl (sm _ _ hz2))⟩
  · rintro i x y T σ H' hx hy ⟨y1, y2, y3, y4, y5, y6, rfl, sm⟩ nT
    obtain ⟨lo, hlo, rfl⟩ : ∃ lo, ms[i]? = some lo ∧ x = .int lo := by
      rw [List.getElem?_take] at hx
      split at hx
      · rw [List.getElem?_map] at hx
        obtain ⟨a, ha, rfl⟩ := Option.map_eq_some_iff.mp hx
        exact ⟨a, ha, rfl⟩
      · cases hx
    obtain ⟨hi, hhi, rfl⟩ : ∃ hi, ms[i + 1]? = some hi ∧ y = .int hi := by
      rw [List.getElem?_drop, List.getElem?_map, Nat.add_comm] at hy
      obtain ⟨a, ha, rfl⟩ := Option.map_eq_some_iff.mp hy
      exact ⟨a, ha, rfl⟩
    have sT := same_upd (o := .tup [.int lo, .int hi]) nT
    refine ⟨T, _, rfl, .inl (.inl upd_same), rfl, _, _, rfl, _, _, rfl, rfl, fun kd nkd => ?_⟩
    have sK := same_upd (o := .dK []) nkd
    have hk0 : upd (upd H' T (.tup [.int lo, .int hi])) kd (.dK []) kd = some (.dK []) := upd_same
    have sm2 := sm.trans (sT.trans sK)
    have nk1 : H1 kd = none := (sm.trans sT).free nkd
    revert hk0 sm2
    generalize upd (upd H' T (.tup [.int lo, .int hi])) kd (.dK []) = H2
    intro hk0 sm2
    have hp2 : SqT K H2 p [.ref mp, .ref ep] := .inl (.inl (sm2 _ _ (s12 _ _ h1)))
    have hep : ∀ {H' : Hp}, KeepT H1 H' → SqT K H' ep (rs.map V.ref) := fun k => .inl (rd_keep (rd_keep (let ⟨o, e, _⟩ := h3; .inr ⟨o, e⟩) (KeepT.of s12)) k)
    refine ⟨.ref p, rfl, p, _, 1, .ref ep, rfl, rfl, hp2, rfl, ep, rfl, ⟨_, hep (KeepT.of sm2)⟩, ?_⟩
    have ktB : ∀ {H3 : Hp}, (∀ b o, b ≠ kd → H1 b = some o → H3 b = some o) → KeepT H1 H3 := fun kp => ⟨fun b xs e => kp b _ (ne_of_none e nk1) e, fun b o xs e => kp b _ (ne_of_none e nk1) e⟩
    refine for_tup (xs := rs.map V.ref) (fun j σ H' => ∃ y4 y5 y6, σ = [some (.ref p), some (.int lo), some (.int hi), some (.ref kd), y4, y5, y6] ∧ H' kd = some (.dK (mergeK [] (letsOf H1 lo hi (es.take j)))) ∧ ∀ b o, b ≠ kd → H1 b = some o → H' b = some o) ?_ ?_ ?_ ?_
    · exact ⟨_, _, _, rfl, hk0, fun b o _ e => sm2 _ _ e⟩
    · rintro j σ H' _ ⟨_, _, _, rfl, _, kp⟩
      exact hep (ktB kp)
    · rintro j x σ H3 hx ⟨y4, y5, y6, rfl, hkd, kp⟩
      rw [List.getElem?_map] at hx
      obtain ⟨r, hr', rfl⟩ := Option.map_eq_some_iff.mp hx
      obtain ⟨e, he, h5⟩ := ens_at h41 hr'
      have kt := ktB kp
      have h6 := h5.keep kt
      have hemem := List.mem_of_getElem? he
      have heb := ok.eb e hemem
      have hls := lets_append H1 lo hi (es.take j) [e]
      rw [← take_next he, lets_one] at hls
      have hlen : (mergeK [] (letsOf H1 lo hi (es.take j))).length ≤ 30 := Nat.le_trans (merge_len _) (Nat.le_trans (lets_len _ _ _ _) (by have := ok.el; rw [List.length_take]; omega))
      refine ⟨r, _, rfl, .inl (.inl h6.1), rfl, _, _, rfl, _, _, rfl, rfl, ?_⟩
      refine ⟨.int lo, rfl, .int e.1, rfl, lo, e.1, rfl, rfl, _, rfl, ?_⟩
      by_cases a1 : lo ≤ e.1
      · rw [decide_eq_true a1]
        refine iteT ⟨.int hi, rfl, e.1, hi, rfl, rfl, _, rfl, ?_⟩
        by_cases a2 : e.1 < hi
        · rw [decide_eq_true a2]
          rw [if_pos ⟨a1, a2⟩] at hls
          refine iteT ?_
          have low := low_at ok.mono hlo hhi a1 a2
          have hcut : letsOf H1 lo e.1 es = letsOf H1 lo hi (es.take j) := lets_cut ok.asc he a2
          revert hkd hls hlen
          have hall := lets_all (H := H1) (lo := lo) (hi := hi) (es := es.take j) fun y hy => ok.eb y (List.mem_of_mem_take hy)
          revert hall
          rw [← hcut]
          intro hall hkd hls hlen
          have hval := merge_val (PV := fun v => ∃ m : Int, v = .int m ∧ 0 ≤ m ∧ m ≤ 10000) (letsOf H1 lo e.1 es) [] (fun k v z => nomatch z) fun x hx => (hall x hx).2
          have hkey := merge_key (PK := fun k => ∃ z, k = .inr z) (letsOf H1 lo e.1 es) [] (fun x hx => nomatch hx) fun x hx => (hall x hx).1
          refine ⟨kd, _, hkd, trivial, fun od => ⟨.ref kd, rfl, kd, od, rfl, .inl ⟨_, upd_same, ?_⟩⟩⟩
          refine for_it walk_keys (fun i σ H' => ∃ y6, σ = [some (.ref p), some (.int lo), some (.int hi), some (.ref kd), some (.int e.1), some e.2.1, y6] ∧ H' kd = some (.frz od (.dK (mergeK [] (letsOf H1 lo e.1 es)))) ∧ ∀ b o, b ≠ kd → H1 b = some o → H' b = some o) ?_ ?_ ?_ ?_
          · exact ⟨_, rfl, upd_same, fun b o nb e => by rw [upd_ne nb]; exact kp b o nb e⟩
          · rintro i σ H' _ ⟨_, rfl, h, _⟩
            exact h
          · rintro i x σ H4 H' hi' ⟨y6, rfl, hf, kp4⟩ ⟨rfl, k', v', hk, rfl⟩
            obtain ⟨z, rfl⟩ := hkey _ (List.mem_of_getElem? hk)
            obtain ⟨u, hu⟩ := valV_has hk
            obtain ⟨m, rfl, m0, m1⟩ := hval _ _ hu
            have kt4 := ktB kp4
            have L4 := (L1.keep kt4).lg
            have shown : ∀ (H' : Hp) (R : VK), R (.str (PyData.int m).shown) H' → rReprV K [.int m] H' R := fun H' R hR => ⟨.int m, .int m, rfl, .inr (.inl ⟨m, rfl, rfl, log_small m0 m1⟩), hR⟩
            refine ⟨.ref p, rfl, .int e.1, rfl, .str z, rfl, p, e.1, lo, z, ms, es, rfl, L4, low, ok.ml, ok.el, fun H5 s5 => ?_⟩
            have e1 : letsOf H' lo e.1 es = letsOf H1 lo e.1 es := lets_keep kt4 h41
            rw [e1, hu]
            dsimp only [tNil]
            refine shown _ _ ?_
            refine ⟨.ref kd, rfl, .str z, rfl, kd, .int m, rfl, .inl ⟨_, .inr z, .inr ⟨_, s5 _ _ hf⟩, rfl, hu.symm⟩, ?_⟩
            dsimp only [tNil]
            refine shown _ _ ?_
            refine ⟨rfl, _, rfl, ?_⟩
            rw [decide_eq_true rfl]
            exact iteF ⟨_, rfl, s5 _ _ hf, fun b o nb e => s5 _ _ (kp4 b o nb e)⟩
          · rintro σ H4 ⟨y6, rfl, hf, kp4⟩
            refine ⟨hf, ?_⟩
            have hk5 : upd H4 kd (.dK (mergeK [] (letsOf H1 lo e.1 es))) kd = some (.dK (mergeK [] (letsOf H1 lo e.1 es))) := upd_same
            have kp5 : ∀ b o, b ≠ kd → H1 b = some o → upd H4 kd (.dK (mergeK [] (letsOf H1 lo e.1 es))) b = some o := fun b o nb e => by rw [upd_ne nb]; exact kp4 b o nb e
            revert hk5 kp5
            generalize upd H4 kd (.dK (mergeK [] (letsOf H1 lo e.1 es))) = H5
            intro hk5 kp5
            have kt5 := ktB kp5
            obtain ⟨p', wd, v1, vs', ev, hp', hc⟩ := sv_lets h5.2
            have hp5 := kt5.1 _ _ hp'
            refine ⟨e.2.1, rfl, p', _, 0, .str wd, ev, rfl, .inl (.inl hp5), atI_nat (j := 0) rfl, rfl, _, rfl, ?_⟩
            rcases hc with ⟨rfl, z, rfl, hz, hlz⟩ | ⟨hw, hlz⟩
            · rw [decide_eq_true rfl]
              rw [hlz] at hls
              refine iteT ⟨.int e.1, rfl, .ref kd, rfl, e.2.1, rfl, p', _, 1, .str z, ev, rfl, .inl (.inl hp5), atI_nat (j := 1) rfl, kd, _, rfl, .inl ⟨_, .inr z, hk5, rfl, small1000 (by omega), rfl⟩, _, _, _, rfl, ?_, fun b o nb q' => by rw [upd_ne nb]; exact kp5 b o nb q'⟩
              rw [hls, merge_snoc]
              exact upd_same
            · rw [decide_eq_false (fun z => hw (by injection z))]
              rw [hlz, List.append_nil] at hls
              refine iteF ⟨_, _, _, rfl, ?_, kp5⟩
              rw [hls]
              exact hk5
        · rw [decide_eq_false a2]
          rw [if_neg (fun z => a2 z.2), List.append_nil] at hls
          refine iteF ⟨_, _, _, rfl, ?_, kp⟩
          rw [hls]
          exact hkd
      · rw [decide_eq_false a1]
        rw [if_neg (fun z => a1 z.1), List.append_nil] at hls
        refine iteF ⟨_, rfl, iteF ⟨_, _, _, rfl, ?_, kp⟩⟩
        rw [hls]
        exact hkd
    · rintro σ H3 ⟨y4, y5, y6, rfl, hkd, kp⟩
      exact ⟨_, _, _, _, _, _, rfl, fun b o e => kp b o (ne_of_none e nk1) e⟩
  · rintro σ H2 ⟨y1, y2, y3, y4, y5, y6, rfl, sm⟩
    exact q _ (s12.trans sm)
end
end L16

namespace L16
open PySem PySem.Spec PyProof.Rows L2 GR
theorem fshow {d : PyData} {k m : Nat} (f : Fine k m d) (hk : k ≤ 60) (hm : m ≤ 16000000) : d.showable = true ∧ d.depth ≤ 60 ∧ d.shown.length ≤ sizeLine := by
  refine ⟨f.shw, Nat.le_trans f.dep hk, ?_⟩
  have z3 : d.shown.length + 2 ≤ m := f.len
  have z24 : sizeLine = 16777216 := by decide
  omega
section
variable {P : Program} {w : World} {K : PySem.W.Frag} {mg : Str → Option Value} {base : Heap}
abbrev s_law_right : Stmt := topS 20
abbrev N_ri : List Str := ["_law_made", "_law_before"]
theorem sc_law_right : FnScope N_ri ["_law_made"] (defScope s_law_right) := ⟨rfl, rfl, rfl, by decide +kernel, rfl, by decide +kernel, by decide +kernel⟩
theorem ok_right {f f_s f_l : Addr} {fd d_s d_l : FuncData} {k : Nat} (F : Fun K "_law_right" "_law_right" s_law_right f fd)
    (GS : FnG P w K mg base CX0 k f_s d_s ["_law_made"] (sp_lg K)) (gS : mg "_law_statements_right" = some (.ref f_s)) (KS : PySem.W.keepIn K (.ref f_s) = true) (bS : Binds K d_s ["_law_made"] [])
    (GL : FnG P w K mg base CX0 k f_l d_l ["_law_made"] (sp_lg K)) (gL : mg "_law_lets_right" = some (.ref f_l)) (KL : PySem.W.keepIn K (.ref f_l) = true) (bL : Binds K d_l ["_law_made"] [])
    (mrepr : mg "repr" = none) : FnG P w K mg base CX0 (k + 1) f fd ["_law_made"] (sp_lg K) := by
  have nd := sc_law_right.nd
  refine ok_g F sc_law_right (fun vs H Q E h => ?_) (fun cdv A outer s H vs Q E hg hr h => ?_)
  · obtain ⟨p, ms, es, rfl, _⟩ := h
    rfl
  obtain ⟨p, ms, es, rfl, L, ok, q⟩ := h
  refine ⟨_, (pss_cons (ps_set (i := 1) nd rfl (.inl rfl) (pe_callB (call_reprD hg hr) (by rfl) mrepr boot_repr (pa_cons (pv 0) pa_nil)))
      (pss_cons (ps_if (PW.pt (pw_or (pt_not (pt_val (pe_callG GS hg hr (by rfl) gS KS bS pass0 (pa_cons (pv 0) pa_nil)))) (pw_or (pt_not (pt_val (pe_callG GL hg hr (by rfl) gL KL bL pass0 (pa_cons (pv 0) pa_nil)))) (pw_or1 (pt_not (pt_val (pe_callG GL hg hr (by rfl) gL KL bL pass0 (pa_cons (pv 0) pa_nil))))))))
      (pss_one (ps_ret pe_bl))
      pss_nil)
      (pss_one (ps_ret (pe_cmpR op_eq (pe_callB (call_reprD hg hr) (by rfl) mrepr boot_repr (pa_cons (pv 0) pa_nil)) (pv 1) (nomark _)))))), ?_⟩
  obtain ⟨f1, f2, f3⟩ := fshow (L.lg.fine ok) (by decide) (by decide)
  refine ⟨.ref p, rfl, p, logD ms es, rfl, L.lg.dp, f1, f2, f3, ?_⟩
  refine ⟨.ref p, rfl, p, ms, es, rfl, L, ok, fun H1 s1 => ⟨_, rfl, iteF ?_⟩⟩
  have L1 := L.keep (KeepT.of s1)
  refine ⟨.ref p, rfl, p, ms, es, rfl, L1, ok, fun H2 s2 => ⟨_, rfl, iteF ?_⟩⟩
  have L2' := L1.keep (KeepT.of s2)
  refine ⟨.ref p, rfl, p, ms, es, rfl, L2', ok, fun H3 s3 => ⟨_, rfl, iteF ?_⟩⟩
  have L3 := L2'.keep (KeepT.of s3)
  refine ⟨.ref p, rfl, p, logD ms es, rfl, L3.lg.dp, f1, f2, f3, ?_⟩
  refine ⟨_, rfl, rfl, ?_⟩
  rw [decide_eq_true rfl]
  exact q _ ((s1.trans s2).trans s3)
end
end L16

namespace L16
open PySem PySem.Spec PyProof.Rows L2 GR
theorem svs_zip {K : PySem.W.Frag} {H : Hp} : ∀ {us : List V} {ds : List PyData}, SVs K H us ds → ∃ l : List St1, l.map (·.1) = us ∧ ∀ s, s ∈ l → SV K H s.1 s.2
  | _, _, .nil => ⟨[], rfl, fun s hs => (nomatch hs)⟩
  | _, _, .cons (a := u) (b := d) h t => by
    obtain ⟨l, h1, h2⟩ := svs_zip t
    refine ⟨(u, d) :: l, by rw [List.map_cons, h1], fun s hs => ?_⟩
    rcases List.mem_cons.mp hs with rfl | hs
    · exact h
    · exact h2 s hs
/-- the list of transactions as data -/
def trD (l : List St1) : PyData := .tuple (l.map (·.2))
def soD (T : List (Addr × List St1)) : PyData := .list (T.map fun t => trD t.2)
theorem st_dp {K : PySem.W.Frag} {H : Hp} : ∀ {l : List St1}, (∀ s, s ∈ l → SV K H s.1 s.2) → DpAll K H (l.map (·.1)) (l.map (·.2)) ∧ Fines 8 (12000 * l.length) (l.map (·.2))
  | [], _ => ⟨.nil, .nil⟩
  | s :: l, h => by
    obtain ⟨h1, h2⟩ := st_dp fun y hy => h y (List.mem_cons_of_mem _ hy)
    obtain ⟨g1, g2⟩ := sv_dp (h s List.mem_cons_self)
    refine ⟨.cons g1 h1, ?_⟩
    rw [List.length_cons, show 12000 * (l.length + 1) = 12000 + 12000 * l.length by omega]
    exact .cons g2 h2
theorem trs_dp {K : PySem.W.Frag} {H : Hp} : ∀ {T : List (Addr × List St1)}, (∀ t, t ∈ T → H t.1 = some (.tup (t.2.map (·.1))) ∧ t.2.length ≤ 6 ∧ ∀ s, s ∈ t.2 → SV K H s.1 s.2) → DpAll K H (T.map fun t => V.ref t.1) (T.map fun t => trD t.2) ∧ Fines 9 (72010 * T.length) (T.map fun t => trD t.2)
  | [], _ => ⟨.nil, .nil⟩
  | t :: T, h => by
    obtain ⟨h1, h2⟩ := trs_dp fun y hy => h y (List.mem_cons_of_mem _ hy)
    obtain ⟨g1, g2, g3⟩ := h t List.mem_cons_self
    obtain ⟨k1, k2⟩ := st_dp g3
    refine ⟨.cons (.tup (.inl (.inl g1)) k1) h1, ?_⟩
    rw [List.length_cons, show 72010 * (T.length + 1) = 72010 + 72010 * T.length by omega]
    exact .cons (k2.tup.mono (Nat.le_refl _) (by omega)) h2
theorem Sm.dp {K : PySem.W.Frag} {H : Hp} {so : Addr} {T : List (Addr × List St1)} (S : Sm K H so T) : Dp K H (.ref so) (soD T) ∧ (soD T).showable = true ∧ (soD T).depth ≤ 60 ∧ (soD T).shown.length ≤ sizeLine := by
  obtain ⟨h1, h2⟩ := trs_dp S.tr
  have hl := S.len
  obtain ⟨g1, g2, g3, g4⟩ := h2.all
  have h5 := sl_lst (T.map fun t => trD t.2)
  have z24 : sizeLine = 16777216 := by decide
  refine ⟨.lst (.inl (.inl S.at')) h1, by unfold soD; simp only [PyData.showable, g2], by unfold soD; simp only [PyData.depth]; omega, ?_⟩
  have h6 : (soD T).shown.length = sl (.list (T.map fun t => trD t.2)) := rfl
  omega
theorem seql_same {K : PySem.W.Frag} {H H' : Hp} {a : Addr} {xs : List V} (h : SqL K H a xs) (s : Same H H') : SqL K H' a xs := by
  rcases h with (h | ⟨o, h⟩) | h
  · exact .inl (.inl (s _ _ h))
  · exact .inl (.inr ⟨o, s _ _ h⟩)
  · exact .inr h
theorem Wd.keepB {H H' : Hp} {d c u tl cl nl B : Addr} {ts cs ns : List Str} (W : Wd H d c u tl cl nl ts cs ns) (k : ∀ b o, b ≠ d → b ≠ c → b ≠ B → H b = some o → H' b = some o) (n : H B = none) : Wd H' d c u tl cl nl ts cs ns :=
  ⟨k _ _ W.u0.1 W.u0.2 (ne_of_none W.dct n) W.dct, k _ _ W.t0.1 W.t0.2 (ne_of_none W.ht n) W.ht, k _ _ W.c0.1 W.c0.2 (ne_of_none W.hc n) W.hc, k _ _ W.n0.1 W.n0.2 (ne_of_none W.hn n) W.hn, W.t0, W.c0, W.n0, W.u0, W.lt, W.lc, W.ln, W.at', W.ac, W.an⟩
section
variable {P : Program} {w : World} {K : PySem.W.Frag} {mg : Str → Option Value} {base : Heap}
abbrev s_law : Stmt := topS 21
abbrev N_law : List Str := ["_law_script", "_law_deck_here", "_law_turn", "_law_world_here", "_law_some", "_law_before", "_law_made", "_law_k"]
theorem sc_law : FnScope N_law ["_law_script"] (defScope s_law) := ⟨rfl, rfl, rfl, by decide +kernel, rfl, by decide +kernel, by decide +kernel⟩
def sp_law (K : PySem.W.Frag) : Sp := fun vs H Q _ => ∃ (a : Addr) (ns : List Int), vs = [.ref a] ∧ SqL K H a (ns.map V.int) ∧ ∀ H', Q (.bl true) H'
theorem ok_law {f f_deck f_draw f_world f_tran f_llo f_co f_ri f_spr : Addr} {fd d_deck d_draw d_world d_tran d_llo d_co d_ri d_spr : FuncData} {k : Nat} (F : Fun K "law" "law" s_law f fd)
    (G_deck : FnOk P w K mg base CX0 k f_deck d_deck ["_law_script"] (sp_deck K)) (g_deck : mg "_law_deck" = some (.ref f_deck)) (K_deck : PySem.W.keepIn K (.ref f_deck) = true) (b_deck : Binds K d_deck ["_law_script"] [])
    (G_draw : FnOk P w K mg base CX0 k f_draw d_draw ["_law_deck_here", "_law_most"] sp_draw) (g_draw : mg "_law_draw" = some (.ref f_draw)) (K_draw : PySem.W.keepIn K (.ref f_draw) = true) (b_draw : Binds K d_draw ["_law_deck_here", "_law_most"] [])
    (G_world : FnOk P w K mg base CX0 k f_world d_world ["_law_deck_here"] sp_world) (g_world : mg "_law_world" = some (.ref f_world)) (K_world : PySem.W.keepIn K (.ref f_world) = true) (b_world : Binds K d_world ["_law_deck_here"] [])
    (G_tran : FnOk P w K mg base CX0 k f_tran d_tran ps_tr (sp_tran K)) (g_tran : mg "_law_transaction" = some (.ref f_tran)) (K_tran : PySem.W.keepIn K (.ref f_tran) = true) (b_tran : Binds K d_tran ps_tr [])
    (G_llo : FnOk P w K mg base CX0 k f_llo d_llo N_llo (sp_llo K)) (g_llo : mg "_law_log_of" = some (.ref f_llo)) (K_llo : PySem.W.keepIn K (.ref f_llo) = true) (b_llo : Binds K d_llo N_llo [])
    (G_co : FnOk P w K mg base CX0 k f_co d_co ["_law_some"] (sp_counted K)) (g_co : mg "_law_counted" = some (.ref f_co)) (K_co : PySem.W.keepIn K (.ref f_co) = true) (b_co : Binds K d_co ["_law_some"] [])
    (G_ri : FnG P w K mg base CX0 k f_ri d_ri ["_law_made"] (sp_lg K)) (g_ri : mg "_law_right" = some (.ref f_ri)) (K_ri : PySem.W.keepIn K (.ref f_ri) = true) (b_ri : Binds K d_ri ["_law_made"] [])
    (G_spr : FnOk P w K mg base CX0 k f_spr d_spr ["_law_deck_here", "_law_some"] (sp_spread K)) (g_spr : mg "_law_spread" = some (.ref f_spr)) (K_spr : PySem.W.keepIn K (.ref f_spr) = true) (b_spr : Binds K d_spr ["_law_deck_here", "_law_some"] [])
    (mrange : mg "range" = none) (mmax : mg "max" = none) (mmin : mg "min" = none) (mlen : mg "len" = none) (mrepr : mg "repr" = none) : FnG P w K mg base CX0 (k + 1) f fd ["_law_script"] (sp_law K) := by
  have nd := sc_law.nd
  refine ok_g F sc_law (fun vs H Q E h => ?_) (fun cdv A outer s H vs Q E hg hr h => ?_)
  · obtain ⟨a, ns, rfl, _⟩ := h
    rfl
  obtain ⟨a, ns, rfl, hS, q⟩ := h
  refine ⟨_, (pss_cons (ps_set (i := 1) nd rfl (.inr rfl) (pe_call G_deck hr (by rfl) g_deck K_deck b_deck .nil pass0 (pa_cons (pv 0) pa_nil)))
      (pss_cons (ps_for PassesOwn.never rfl (pi_range1 rfl mrange (pa_cons (pe_callB (call_max2 rfl) (by rfl) mmax boot_max (pa_cons pe_int (pa_cons (pe_callB (call_min2 rfl) (by rfl) mmin boot_min (pa_cons (pe_callB call_len_seq (by rfl) mlen PySem.boot_len (pa_cons (pv 0) pa_nil)) (pa_cons pe_int pa_nil))) pa_nil))) pa_nil)) (pg_name (i := 2) nd rfl (Or.inl rfl))
      (pss_cons (ps_set (i := 3) nd rfl (.inr rfl) (pe_call G_world hr (by rfl) g_world K_world b_world .nil pass0 (pa_cons (pv 1) pa_nil)))
        (pss_cons (ps_setLc (i := 4) (own := [("_law_k", 7)]) (te := tCall (sp_tran K) [] E0 (tCons (tVar 1) (tCons (tVar 3) (tCons (tC (.int 6)) (tCons (tC (.int 3)) tNil))))) rfl nd rfl rfl (sw_true rfl rfl rfl (by decide +kernel)) (pi_range1 rfl mrange (pa_cons (pe_call G_draw hr (by rfl) g_draw K_draw b_draw .nil pass0 (pa_cons (pv 1) (pa_cons pe_int pa_nil))) pa_nil)) (blkOk_by (N := N_law) (sc := defScope s_law) (by decide +kernel)) (fun _ _ _ _ _ => (pg_name (i := 7) nd rfl (Or.inl rfl))) (fun _ _ _ _ _ => pts_nil) (fun _ _ _ _ _ => (pe_call G_tran hr (by rfl) g_tran K_tran b_tran .nil pass0 (pa_cons (pv 1) (pa_cons (pv 3) (pa_cons pe_int (pa_cons pe_int pa_nil)))))))
        (pss_cons (ps_set (i := 5) nd rfl (.inl rfl) (pe_callB (call_reprD hg hr) (by rfl) mrepr boot_repr (pa_cons (pv 4) pa_nil)))
        (pss_cons (ps_set (i := 6) nd rfl (.inl rfl) (pe_call G_llo hr (by rfl) g_llo K_llo b_llo .nil pass0 (pa_cons (pv 4) pa_nil)))
        (pss_cons (ps_if (PW.pt (pw_or (pt_cmpR op_ne (pe_callB (call_reprD hg hr) (by rfl) mrepr boot_repr (pa_cons (pv 6) pa_nil)) (pe_callB (call_reprD hg hr) (by rfl) mrepr boot_repr (pa_cons (pe_call G_co hr (by rfl) g_co K_co b_co .nil pass0 (pa_cons (pv 4) pa_nil)) pa_nil)) (nomark _)) (pw_or (pt_cmpR op_ne (pe_callB (call_reprD hg hr) (by rfl) mrepr boot_repr (pa_cons (pv 4) pa_nil)) (pv 5) (nomark _)) (pw_or1 (pt_cmpR op_ne (pe_callB (call_reprD hg hr) (by rfl) mrepr boot_repr (pa_cons (pe_call G_llo hr (by rfl) g_llo K_llo b_llo .nil pass0 (pa_cons (pv 4) pa_nil)) pa_nil)) (pe_callB (call_reprD hg hr) (by rfl) mrepr boot_repr (pa_cons (pv 6) pa_nil)) (nomark _))))))
        (pss_one (ps_ret pe_bl))
        pss_nil)
        (pss_one (ps_if (PW.pt (pw_or (pt_not (pt_val (pe_callG G_ri hg hr (by rfl) g_ri K_ri b_ri pass0 (pa_cons (pv 6) pa_nil)))) (pw_or1 (pt_not (pt_val (pe_callG G_ri hg hr (by rfl) g_ri K_ri b_ri pass0 (pa_cons (pe_call G_spr hr (by rfl) g_spr K_spr b_spr .nil pass0 (pa_cons (pv 1) (pa_cons (pv 4) pa_nil))) pa_nil)))))))
        (pss_one (ps_ret pe_bl))
        pss_nil))))))))
      (pss_one (ps_ret pe_bl)))), ?_⟩
  refine ⟨.ref a, rfl, a, ns, rfl, hS, fun H1 d c s1 n1 D1 => ?_⟩
  have hS1 : SqL K H1 a (ns.map V.int) := seql_same hS s1
  obtain ⟨m, hm, hm3⟩ : ∃ m : Nat, (if (if (3 : Int) < ((ns.map V.int).length : Int) then 3 else ((ns.map V.int).length : Int)) > 1 then (if (3 : Int) < ((ns.map V.int).length : Int) then 3 else ((ns.map V.int).length : Int)) else 1) = (m : Int) ∧ m ≤ 3 := by
    refine ⟨(if (if (3 : Int) < ((ns.map V.int).length : Int) then 3 else ((ns.map V.int).length : Int)) > 1 then (if (3 : Int) < ((ns.map V.int).length : Int) then 3 else ((ns.map V.int).length : Int)) else 1).toNat, ?_⟩
    split <;> split <;> omega
  refine ⟨.ref a, rfl, a, _, rfl, .inl hS1, _, _, rfl, _, _, rfl, ?_⟩
  rw [hm]
  refine ⟨(m : Int), rfl, by omega, by omega, ?_⟩
  rw [show ((m : Int)).toNat = m by omega]
  refine for_range (n := m) (fun i σ H' => ∃ y2 y3 y4 y5 y6 y7, σ = [some (.ref a), some (.ref d), y2, y3, y4, y5, y6, y7] ∧ Deck H' d c (2000000 * (i : Int))) ?_ ?_ ?_
  · exact ⟨none, none, none, none, none, none, rfl, D1.mono (by omega)⟩
  · rintro i σ H2 hi ⟨y2, y3, y4, y5, y6, y7, rfl, D2⟩
    refine ⟨.ref d, rfl, d, c, _, rfl, D2, by omega, fun H3 u tl cl nl ts cs nms k3 D3 nu W3 => ?_⟩
    refine ⟨.ref d, rfl, d, c, _, 6, rfl, D3, by omega, by decide, by decide, fun H4 r k4 D4 r0 r6 => ?_⟩
    obtain ⟨n, rfl⟩ := Int.eq_ofNat_of_zero_le r0
    refine ⟨(n : Int), rfl, by omega, by omega, fun B nB => ?_⟩
    rw [show ((n : Int)).toNat = n by omega]
    have hBd := D4.new nB
    have W4 := W3.keep k4
    refine lc_range (n := n) (fun j H' => ∃ T : List (Addr × List St1), H' B = some (.lst (T.map fun t => V.ref t.1)) ∧ T.length = j ∧ (∀ t, t ∈ T → H' t.1 = some (.tup (t.2.map (·.1))) ∧ t.2.length ≤ 6 ∧ ∀ s, s ∈ t.2 → SV K H' s.1 s.2) ∧ Deck H' d c (2000000 * (i : Int) + 31 + 200000 * (j : Int)) ∧ ∀ b o, b ≠ d → b ≠ c → b ≠ B → H4 b = some o → H' b = some o) ?_ ?_ ?_
    · have sB := same_upd (o := .lst []) nB
      exact ⟨[], upd_same, rfl, fun t ht => (nomatch ht), (D4.same sB).mono (by omega), fun b o _ _ _ e => sB _ _ e⟩
    · rintro j H5 hj ⟨T, hB, hTl, hT, D5, kB⟩
      have W5 := W4.keepB kB nB
      refine ⟨rfl, yes_then ⟨.ref d, rfl, .ref u, rfl, d, c, u, tl, cl, nl, _, ts, cs, nms, rfl, D5, by omega, W5, fun H6 p us ds k6 D6 hp hus hul => ?_⟩⟩
      obtain ⟨l, hl1, hl2⟩ := svs_zip hus
      have hB6 := k6 _ _ hBd.1 hBd.2 hB
      have kt6 := k6.t D5
      have ktB : KeepT H6 (upd H6 B (.lst ((T.map fun t => V.ref t.1) ++ [.ref p]))) := KeepT.lst hB6
      refine ⟨_, hB6, small1000 (by rw [List.length_map]; omega), T ++ [(p, l)], by rw [List.map_append]; exact upd_same, by rw [List.length_append, hTl]; rfl, fun t ht => ?_, (D6.upd hBd.1 hBd.2).mono (by omega), ?_⟩
      · rcases List.mem_append.mp ht with ht | ht
        · obtain ⟨g1, g2, g3⟩ := hT t ht
          exact ⟨ktB.1 _ _ (kt6.1 _ _ g1), g2, fun s hs => ((g3 s hs).keep kt6).keep ktB⟩
        · rw [List.mem_singleton.mp ht]
          refine ⟨ktB.1 _ _ (by rw [hp, ← hl1]), by rw [← List.length_map (f := (·.1)), hl1]; exact hul, fun s hs => (hl2 s hs).keep ktB⟩
      · exact fun b o n1 n2 n3 e => by rw [upd_ne n3]; exact k6 _ _ n1 n2 (kB b o n1 n2 n3 e)
    · rintro H5 ⟨T, hB, hTl, hT, D5, kB⟩
      have S5 : Sm K H5 B T := ⟨hB, hT, by omega⟩
      have okT : OkL (0 :: mks 0 (T.map (·.2))) (entN 0 (T.map (·.2)).flatten) := okL_counted (by rw [List.length_map]; omega) fun t ht => by
        obtain ⟨t', ht', rfl⟩ := List.mem_map.mp ht
        exact (hT t' ht').2.1
      obtain ⟨g0, g1, g2, g3⟩ := S5.dp
      refine ⟨.ref B, rfl, B, soD T, rfl, g0, g1, g2, g3, ?_⟩
      refine ⟨.ref B, rfl, B, T, rfl, S5, fun H6 pm s6 L6 => ?_⟩
      have S6 := S5.same s6
      obtain ⟨f1, f2, f3⟩ := fshow (L6.lg.fine okT) (by decide) (by decide)
      refine ⟨.ref pm, rfl, pm, _, rfl, L6.lg.dp, f1, f2, f3, .ref B, rfl, B, T, rfl, S6, fun H7 pc s7 L7 => ⟨pc, _, rfl, L7.dp, f1, f2, f3, rfl, _, rfl, ?_⟩⟩
      have S7 := S6.same s7
      rw [decide_eq_true rfl]
      refine iteF ⟨.ref B, rfl, B, soD T, rfl, S7.dp.1, g1, g2, g3, _, rfl, rfl, _, rfl, ?_⟩
      rw [decide_eq_true rfl]
      refine iteF ⟨.ref B, rfl, B, T, rfl, S7, fun H8 p8 s8 L8 => ⟨p8, _, rfl, L8.lg.dp, f1, f2, f3, .ref pm, rfl, pm, _, rfl, (L6.keep (KeepT.of (s7.trans s8))).lg.dp, f1, f2, f3, rfl, _, rfl, ?_⟩⟩
      rw [decide_eq_true rfl]
      refine iteF ?_
      have S8 := S7.same s8
      have L68 := L6.keep (KeepT.of (s7.trans s8))
      refine ⟨.ref pm, rfl, pm, _, _, rfl, L68, okT, fun H9 s9 => ⟨_, rfl, iteF ?_⟩⟩
      have S9 := S8.same s9
      have D9 := D5.same (((s6.trans s7).trans s8).trans s9)
      refine ⟨.ref d, rfl, .ref B, rfl, d, c, B, _, T, rfl, D9, by omega, S9, hBd.1, hBd.2, fun H10 p10 ms es k10 D10 L10 ok10 => ⟨p10, ms, es, rfl, L10, ok10, fun H11 s11 => ⟨_, rfl, iteF ?_⟩⟩⟩
      exact ⟨_, _, _, _, _, _, rfl, (D10.same s11).mono (by omega)⟩
  · rintro σ H2 ⟨y2, y3, y4, y5, y6, y7, rfl, D2⟩
    exact q _
end
end L16

namespace L16
open PySem PySem.Spec PyProof.Rows L2 GR
/-- a def stands in the text's top -/
def Has (K : PySem.W.Frag) (x : Str) (st : Stmt) : Prop := ∃ (f : Addr) (fd : FuncData), PySem.W.nsIn K mainGlobals x = some (some (.ref f)) ∧ Fun K x x st f fd
theorem has_mk {K : PySem.W.Frag} {x : Str} {st : Stmt} {f : Addr} {oc : Value} {od an : Option Addr} {osl : Array (Option Value)} {kV doc pm cdv ct : Value} (a : PySem.W.nsIn K mainGlobals x = some (some (.ref f)))
    (l : K.lookup f = some ⟨oc, od, .func (PySem.W.fnOf x x (defArgs st) (defBody st) (defScope st) .none kV doc pm an cdv ct), osl⟩) (c : PySem.W.codeIn K cdv x = true) (k : PySem.W.keepIn K (.ref f) = true) : Has K x st := ⟨f, _, a, fun_mk l c k⟩
theorem all_mk {P : Program} {w : World} {K : PySem.W.Frag} {h : Heap} {mg : Str → Option Value} {fa : Addr} (X : K.In h) (G : h.Ns mainGlobals mg) (hfa : mg "law" = some (.ref fa))
    (X_log_of : Has K "log_of" s_log_of)
    (X_statement_at : Has K "statement_at" s_statement_at)
    (X_let_of : Has K "let_of" s_let_of)
    (X_start_of : Has K "start_of" s_start_of)
    (X_lets_at : Has K "lets_at" s_lets_at)
    (X_law_deck : Has K "_law_deck" s_law_deck)
    (X_law_draw : Has K "_law_draw" s_law_draw)
    (X_law_pick : Has K "_law_pick" s_law_pick)
    (X_law_names : Has K "_law_names" s_law_names)
    (X_law_world : Has K "_law_world" s_law_world)
    (X_law_expression : Has K "_law_expression" s_law_expression)
    (X_law_statement : Has K "_law_statement" s_law_statement)
    (X_law_transaction : Has K "_law_transaction" s_law_transaction)
    (X_law_spread : Has K "_law_spread" s_law_spread)
    (X_law_log_of : Has K "_law_log_of" s_law_log_of)
    (X_law_counted : Has K "_law_counted" s_law_counted)
    (X_law_statements_right : Has K "_law_statements_right" s_law_statements_right)
    (X_law_lets_right : Has K "_law_lets_right" s_law_lets_right)
    (X_law_right : Has K "_law_right" s_law_right)
    (X_law : Has K "law" s_law)
    (z_list : PySem.W.nsIn K mainGlobals "list" = some none) (z_sum : PySem.W.nsIn K mainGlobals "sum" = some none) (z_len : PySem.W.nsIn K mainGlobals "len" = some none) (z_range : PySem.W.nsIn K mainGlobals "range" = some none) (z_int : PySem.W.nsIn K mainGlobals "int" = some none) (z_repr : PySem.W.nsIn K mainGlobals "repr" = some none) (z_tuple : PySem.W.nsIn K mainGlobals "tuple" = some none) (z_zip : PySem.W.nsIn K mainGlobals "zip" = some none) (z_dict : PySem.W.nsIn K mainGlobals "dict" = some none) (z_min : PySem.W.nsIn K mainGlobals "min" = some none) (z_max : PySem.W.nsIn K mainGlobals "max" = some none) (z_enumerate : PySem.W.nsIn K mainGlobals "enumerate" = some none)
    
    : ∃ fd : FuncData, (∀ (s : Shared) (v : Value), BindsTo s fd ⟨[v], []⟩ [("_law_script", v)]) ∧ ∀ base : Heap, K.In base → base.Ns mainGlobals mg → FnG P w K mg base CX0 9 fa fd ["_law_script"] (sp_law K) := by
  obtain ⟨flog_of, dlog_of, alog_of, Flog_of⟩ := X_log_of
  have glog_of := PySem.W.mg_of X G alog_of
  obtain ⟨fstatement_at, dstatement_at, astatement_at, Fstatement_at⟩ := X_statement_at
  have gstatement_at := PySem.W.mg_of X G astatement_at
  have bstatement_at : Binds K dstatement_at ["log", "position"] [] := Fstatement_at.binds (ps := ["log", "position"]) fun _ _ _ _ _ _ us hl => match us, hl with | [_, _], _ => rfl
  obtain ⟨flet_of, dlet_of, alet_of, Flet_of⟩ := X_let_of
  have glet_of := PySem.W.mg_of X G alet_of
  have blet_of : Binds K dlet_of ["log", "position", "variable"] [] := Flet_of.binds (ps := ["log", "position", "variable"]) fun _ _ _ _ _ _ us hl => match us, hl with | [_, _, _], _ => rfl
  obtain ⟨fstart_of, dstart_of, astart_of, Fstart_of⟩ := X_start_of
  have gstart_of := PySem.W.mg_of X G astart_of
  have bstart_of : Binds K dstart_of ["marks", "position"] [] := Fstart_of.binds (ps := ["marks", "position"]) fun _ _ _ _ _ _ us hl => match us, hl with | [_, _], _ => rfl
  obtain ⟨flets_at, dlets_at, alets_at, Flets_at⟩ := X_lets_at
  have glets_at := PySem.W.mg_of X G alets_at
  have blets_at : Binds K dlets_at ["log", "position"] [] := Flets_at.binds (ps := ["log", "position"]) fun _ _ _ _ _ _ us hl => match us, hl with | [_, _], _ => rfl
  obtain ⟨f_law_deck, d_law_deck, a_law_deck, F_law_deck⟩ := X_law_deck
  have g_law_deck := PySem.W.mg_of X G a_law_deck
  have b_law_deck : Binds K d_law_deck ["_law_script"] [] := F_law_deck.binds (ps := ["_law_script"]) fun _ _ _ _ _ _ us hl => match us, hl with | [_], _ => rfl
  obtain ⟨f_law_draw, d_law_draw, a_law_draw, F_law_draw⟩ := X_law_draw
  have g_law_draw := PySem.W.mg_of X G a_law_draw
  have b_law_draw : Binds K d_law_draw ["_law_deck_here", "_law_most"] [] := F_law_draw.binds (ps := ["_law_deck_here", "_law_most"]) fun _ _ _ _ _ _ us hl => match us, hl with | [_, _], _ => rfl
  obtain ⟨f_law_pick, d_law_pick, a_law_pick, F_law_pick⟩ := X_law_pick
  have g_law_pick := PySem.W.mg_of X G a_law_pick
  have b_law_pick : Binds K d_law_pick ["_law_deck_here", "_law_some"] [] := F_law_pick.binds (ps := ["_law_deck_here", "_law_some"]) fun _ _ _ _ _ _ us hl => match us, hl with | [_, _], _ => rfl
  obtain ⟨f_law_names, d_law_names, a_law_names, F_law_names⟩ := X_law_names
  have g_law_names := PySem.W.mg_of X G a_law_names
  have b_law_names : Binds K d_law_names ["_law_deck_here", "_law_many"] [] := F_law_names.binds (ps := ["_law_deck_here", "_law_many"]) fun _ _ _ _ _ _ us hl => match us, hl with | [_, _], _ => rfl
  obtain ⟨f_law_world, d_law_world, a_law_world, F_law_world⟩ := X_law_world
  have g_law_world := PySem.W.mg_of X G a_law_world
  have b_law_world : Binds K d_law_world ["_law_deck_here"] [] := F_law_world.binds (ps := ["_law_deck_here"]) fun _ _ _ _ _ _ us hl => match us, hl with | [_], _ => rfl
  obtain ⟨f_law_expression, d_law_expression, a_law_expression, F_law_expression⟩ := X_law_expression
  have g_law_expression := PySem.W.mg_of X G a_law_expression
  have b_law_expression : Binds K d_law_expression ["_law_deck_here", "_law_world_here", "_law_deep", "_law_scope", "_law_loose"] [] := F_law_expression.binds (ps := ["_law_deck_here", "_law_world_here", "_law_deep", "_law_scope", "_law_loose"]) fun _ _ _ _ _ _ us hl => match us, hl with | [_, _, _, _, _], _ => rfl
  obtain ⟨f_law_statement, d_law_statement, a_law_statement, F_law_statement⟩ := X_law_statement
  have g_law_statement := PySem.W.mg_of X G a_law_statement
  have b_law_statement : Binds K d_law_statement ["_law_deck_here", "_law_world_here", "_law_scope", "_law_deep"] [] := F_law_statement.binds (ps := ["_law_deck_here", "_law_world_here", "_law_scope", "_law_deep"]) fun _ _ _ _ _ _ us hl => match us, hl with | [_, _, _, _], _ => rfl
  obtain ⟨f_law_transaction, d_law_transaction, a_law_transaction, F_law_transaction⟩ := X_law_transaction
  have g_law_transaction := PySem.W.mg_of X G a_law_transaction
  have b_law_transaction : Binds K d_law_transaction ["_law_deck_here", "_law_world_here", "_law_most", "_law_deep"] [] := F_law_transaction.binds (ps := ["_law_deck_here", "_law_world_here", "_law_most", "_law_deep"]) fun _ _ _ _ _ _ us hl => match us, hl with | [_, _, _, _], _ => rfl
  obtain ⟨f_law_spread, d_law_spread, a_law_spread, F_law_spread⟩ := X_law_spread
  have g_law_spread := PySem.W.mg_of X G a_law_spread
  have b_law_spread : Binds K d_law_spread ["_law_deck_here", "_law_some"] [] := F_law_spread.binds (ps := ["_law_deck_here", "_law_some"]) fun _ _ _ _ _ _ us hl => match us, hl with | [_, _], _ => rfl
  obtain ⟨f_law_log_of, d_law_log_of, a_law_log_of, F_law_log_of⟩ := X_law_log_of
  have g_law_log_of := PySem.W.mg_of X G a_law_log_of
  have b_law_log_of : Binds K d_law_log_of ["_law_some"] [] := F_law_log_of.binds (ps := ["_law_some"]) fun _ _ _ _ _ _ us hl => match us, hl with | [_], _ => rfl
  obtain ⟨f_law_counted, d_law_counted, a_law_counted, F_law_counted⟩ := X_law_counted
  have g_law_counted := PySem.W.mg_of X G a_law_counted
  have b_law_counted : Binds K d_law_counted ["_law_some"] [] := F_law_counted.binds (ps := ["_law_some"]) fun _ _ _ _ _ _ us hl => match us, hl with | [_], _ => rfl
  obtain ⟨f_law_statements_right, d_law_statements_right, a_law_statements_right, F_law_statements_right⟩ := X_law_statements_right
  have g_law_statements_right := PySem.W.mg_of X G a_law_statements_right
  have b_law_statements_right : Binds K d_law_statements_right ["_law_made"] [] := F_law_statements_right.binds (ps := ["_law_made"]) fun _ _ _ _ _ _ us hl => match us, hl with | [_], _ => rfl
  obtain ⟨f_law_lets_right, d_law_lets_right, a_law_lets_right, F_law_lets_right⟩ := X_law_lets_right
  have g_law_lets_right := PySem.W.mg_of X G a_law_lets_right
  have b_law_lets_right : Binds K d_law_lets_right ["_law_made"] [] := F_law_lets_right.binds (ps := ["_law_made"]) fun _ _ _ _ _ _ us hl => match us, hl with | [_], _ => rfl
  obtain ⟨f_law_right, d_law_right, a_law_right, F_law_right⟩ := X_law_right
  have g_law_right := PySem.W.mg_of X G a_law_right
  have b_law_right : Binds K d_law_right ["_law_made"] [] := F_law_right.binds (ps := ["_law_made"]) fun _ _ _ _ _ _ us hl => match us, hl with | [_], _ => rfl
  obtain ⟨f_law0, d_law0, a_law0, F_law0⟩ := X_law
  have e := hfa.symm.trans (PySem.W.mg_of X G a_law0)
  cases e
  have mlist := PySem.W.mg_none_of X G z_list
  have msum := PySem.W.mg_none_of X G z_sum
  have mlen := PySem.W.mg_none_of X G z_len
  have mrange := PySem.W.mg_none_of X G z_range
  have mint := PySem.W.mg_none_of X G z_int
  have mrepr := PySem.W.mg_none_of X G z_repr
  have mtuple := PySem.W.mg_none_of X G z_tuple
  have mzip := PySem.W.mg_none_of X G z_zip
  have mdict := PySem.W.mg_none_of X G z_dict
  have mmin := PySem.W.mg_none_of X G z_min
  have mmax := PySem.W.mg_none_of X G z_max
  have menumerate := PySem.W.mg_none_of X G z_enumerate
  obtain ⟨oc, od, kV, doc, pm, an, cdv, ct, osl, hfd, _, _⟩ := F_law0.ex
  refine ⟨d_law0, fun s v => ?_, fun base _ _ => ?_⟩
  · subst hfd
    exact .of_eq rfl
  · have Gdraw := ok_draw (P := P) (w := w) (mg := mg) (base := base) (k := 0) F_law_draw
    have Gpick := ok_pick (k := 1) F_law_pick Gdraw g_law_draw F_law_draw.kp b_law_draw mlen
    have Gnames := ok_names (k := 2) F_law_names (Gdraw.mono (by decide)) g_law_draw F_law_draw.kp b_law_draw Gpick g_law_pick F_law_pick.kp b_law_pick mrange mlen
    have Gworld := ok_world (k := 3) F_law_world (Gdraw.mono (by decide)) g_law_draw F_law_draw.kp b_law_draw Gnames g_law_names F_law_names.kp b_law_names
    have Gdeck := ok_deck (P := P) (w := w) (mg := mg) (base := base) (k := 0) F_law_deck mlist msum mlen
    have Gex := ok_exprs (k := 2) F_law_expression (Gdraw.mono (by decide)) g_law_draw F_law_draw.kp b_law_draw Gpick g_law_pick F_law_pick.kp b_law_pick g_law_expression F_law_expression.kp b_law_expression mint mmax 3
    have Gst := ok_stmt (k := 6) F_law_statement (Gdraw.mono (by decide)) g_law_draw F_law_draw.kp b_law_draw (Gpick.mono (by decide)) g_law_pick F_law_pick.kp b_law_pick Gex g_law_expression F_law_expression.kp b_law_expression
    have Gtr := ok_tran (k := 7) F_law_transaction (Gdraw.mono (by decide)) g_law_draw F_law_draw.kp b_law_draw Gst g_law_statement F_law_statement.kp b_law_statement mrange mint mtuple
    have Glog := ok_log_of (P := P) (w := w) (mg := mg) (base := base) (k := 0) Flog_of mlen mtuple menumerate
    have Gsat := ok_statement_at (P := P) (w := w) (mg := mg) (base := base) (k := 0) Fstatement_at
    have Gsof := ok_start_of (P := P) (w := w) (mg := mg) (base := base) (k := 0) Fstart_of mmax
    have Glat := ok_lets_at (k := 1) Flets_at Gsof gstart_of Fstart_of.kp bstart_of
    have Glof := ok_let_of (k := 2) Flet_of Glat glets_at Flets_at.kp blets_at
    have Gspr := ok_spread (k := 2) F_law_spread (Gdraw.mono (by decide)) g_law_draw F_law_draw.kp b_law_draw Gpick g_law_pick F_law_pick.kp b_law_pick mlen mtuple
    have Gllo := ok_law_log_of (k := 1) F_law_log_of Glog glog_of Flog_of.kp mlen
    have Gco := ok_counted (P := P) (w := w) (mg := mg) (base := base) (k := 0) F_law_counted mlen mtuple
    have Gsr := ok_statements_right (k := 1) F_law_statements_right Gsat gstatement_at Fstatement_at.kp bstatement_at mdict mmin mmax mrepr
    have Glr := ok_lets_right (k := 3) F_law_lets_right Glof glet_of Flet_of.kp blet_of mzip mrepr
    have Gri := ok_right (k := 4) F_law_right (Gsr.mono (by decide)) g_law_statements_right F_law_statements_right.kp b_law_statements_right Glr g_law_lets_right F_law_lets_right.kp b_law_lets_right mrepr
    exact ok_law (k := 8) F_law0 (Gdeck.mono (by decide)) g_law_deck F_law_deck.kp b_law_deck (Gdraw.mono (by decide)) g_law_draw F_law_draw.kp b_law_draw (Gworld.mono (by decide)) g_law_world F_law_world.kp b_law_world Gtr g_law_transaction F_law_transaction.kp b_law_transaction (Gllo.mono (by decide)) g_law_log_of F_law_log_of.kp b_law_log_of (Gco.mono (by decide)) g_law_counted F_law_counted.kp b_law_counted (Gri.mono (by decide)) g_law_right F_law_right.kp b_law_right (Gspr.mono (by decide)) g_law_spread F_law_spread.kp b_law_spread mrange mmax mmin mlen mrepr
end L16
open PySem PySem.W PyProof.Rows
set_option maxHeartbeats 0 in
theorem PySem.Challenge.cw_lookdone_k16_logs_of_transactions_holds : PySem.Challenge.rw_lookdone_k16_logs_of_transactions.Holds := by
  w_on; o_law; k_head; (case hw => w_witness2)
  k_fill
  refine GR.walk_g (l := PySem.Challenge.rw_lookdone_k16_logs_of_transactions) (n := 63) (k := 9) (x := "_law_script") (sp := L16.sp_law) rfl (by decide) rfl ⟨rfl, by decide, by decide⟩ (fun w h Y => PySem.W.kIn_of Y) ?F (fun _ _ a ns hl _ hS => ⟨a, ns, rfl, hS, fun _ => rfl⟩)
  case F =>
    intro w mg fa h KX G hmg
    refine' L16.all_mk KX G hmg (L16.has_mk ?a_log_of ?l_log_of ?c_log_of ?k_log_of) (L16.has_mk ?a_statement_at ?l_statement_at ?c_statement_at ?k_statement_at) (L16.has_mk ?a_let_of ?l_let_of ?c_let_of ?k_let_of) (L16.has_mk ?a_start_of ?l_start_of ?c_start_of ?k_start_of) (L16.has_mk ?a_lets_at ?l_lets_at ?c_lets_at ?k_lets_at) (L16.has_mk ?a_law_deck ?l_law_deck ?c_law_deck ?k_law_deck) (L16.has_mk ?a_law_draw ?l_law_draw ?c_law_draw ?k_law_draw) (L16.has_mk ?a_law_pick ?l_law_pick ?c_law_pick ?k_law_pick) (L16.has_mk ?a_law_names ?l_law_names ?c_law_names ?k_law_names) (L16.has_mk ?a_law_world ?l_law_world ?c_law_world ?k_law_world) (L16.has_mk ?a_law_expression ?l_law_expression ?c_law_expression ?k_law_expression) (L16.has_mk ?a_law_statement ?l_law_statement ?c_law_statement ?k_law_statement) (L16.has_mk ?a_law_transaction ?l_law_transaction ?c_law_transaction ?k_law_transaction) (L16.has_mk ?a_law_spread ?l_law_spread ?c_law_spread ?k_law_spread) (L16.has_mk ?a_law_log_of ?l_law_log_of ?c_law_log_of ?k_law_log_of) (L16.has_mk ?a_law_counted ?l_law_counted ?c_law_counted ?k_law_counted) (L16.has_mk ?a_law_statements_right ?l_law_statements_right ?c_law_statements_right ?k_law_statements_right) (L16.has_mk ?a_law_lets_right ?l_law_lets_right ?c_law_lets_right ?k_law_lets_right) (L16.has_mk ?a_law_right ?l_law_right ?c_law_right ?k_law_right) (L16.has_mk ?a_law ?l_law ?c_law ?k_law) ?z_list ?z_sum ?z_len ?z_range ?z_int ?z_repr ?z_tuple ?z_zip ?z_dict ?z_min ?z_max ?z_enumerate
    (case a_log_of => k_is)
    (case l_log_of => k_is)
    (case c_log_of => k_is)
    (case k_log_of => k_is)
    (case a_statement_at => k_is)
    (case l_statement_at => k_is)
    (case c_statement_at => k_is)
    (case k_statement_at => k_is)
    (case a_let_of => k_is)
    (case l_let_of => k_is)
    (case c_let_of => k_is)
    (case k_let_of => k_is)
    (case a_start_of => k_is)
    (case l_start_of => k_is)
    (case c_start_of => k_is)
    (case k_start_of => k_is)
    (case a_lets_at => k_is)
    (case l_lets_at => k_is)
    (case c_lets_at => k_is)
    (case k_lets_at => k_is)
    (case a_law_deck => k_is)
    (case l_law_deck => k_is)
    (case c_law_deck => k_is)
    (case k_law_deck => k_is)
    (case a_law_draw => k_is)
    (case l_law_draw => k_is)
    (case c_law_draw => k_is)
    (case k_law_draw => k_is)
    (case a_law_pick => k_is)
    (case l_law_pick => k_is)
    (case c_law_pick => k_is)
    (case k_law_pick => k_is)
    (case a_law_names => k_is)
    (case l_law_names => k_is)
    (case c_law_names => k_is)
    (case k_law_names => k_is)
    (case a_law_world => k_is)
    (case l_law_world => k_is)
    (case c_law_world => k_is)
    (case k_law_world => k_is)
    (case a_law_expression => k_is)
    (case l_law_expression => k_is)
    (case c_law_expression => k_is)
    (case k_law_expression => k_is)
    (case a_law_statement => k_is)
    (case l_law_statement => k_is)
    (case c_law_statement => k_is)
    (case k_law_statement => k_is)
    (case a_law_transaction => k_is)
    (case l_law_transaction => k_is)
    (case c_law_transaction => k_is)
    (case k_law_transaction => k_is)
    (case a_law_spread => k_is)
    (case l_law_spread => k_is)
    (case c_law_spread => k_is)
    (case k_law_spread => k_is)
    (case a_law_log_of => k_is)
    (case l_law_log_of => k_is)
    (case c_law_log_of => k_is)
    (case k_law_log_of => k_is)
    (case a_law_counted => k_is)
    (case l_law_counted => k_is)
    (case c_law_counted => k_is)
    (case k_law_counted => k_is)
    (case a_law_statements_right => k_is)
    (case l_law_statements_right => k_is)
    (case c_law_statements_right => k_is)
    (case k_law_statements_right => k_is)
    (case a_law_lets_right => k_is)
    (case l_law_lets_right => k_is)
    (case c_law_lets_right => k_is)
    (case k_law_lets_right => k_is)
    (case a_law_right => k_is)
    (case l_law_right => k_is)
    (case c_law_right => k_is)
    (case k_law_right => k_is)
    (case a_law => k_is)
    (case l_law => k_is)
    (case c_law => k_is)
    (case k_law => k_is)
    (case z_list => k_is)
    (case z_sum => k_is)
    (case z_len => k_is)
    (case z_range => k_is)
    (case z_int => k_is)
    (case z_repr => k_is)
    (case z_tuple => k_is)
    (case z_zip => k_is)
    (case z_dict => k_is)
    (case z_min => k_is)
    (case z_max => k_is)
    (case z_enumerate => k_is)
