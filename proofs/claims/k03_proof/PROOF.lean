import PyProof.Rows.All
import Wide.All
import OpenK.AllK
import Wide.FinOn
import HandS.AnyAll
import HandS.ForMost
import HandS.IsInst
import HandS.Conv
import HandS.Exc
import HandS.TryOnly
import HandS.WordsExc
import HandS.ExcInit
import HandS.Wide
import HandS.TupAny
import HandS.TupMul
import HandS.Rev
import HandS.Style
import HandS.EndTab
import HandS.Iter
import HandS.Walk
import KE.GoesEnum
import HandS.Zip
import HandS.NoneIn
import HandS.ForExc
import HandS.Lambda
import HandS.Nested
import HandS.ExcField
import HandS.ExcIs
import HandS.TryMany
import KE.KExcIs
import PyProof.Rows.ReprR
import PyProof.ReprLen
import HandS.StrMore
import HandS.New
import PySem.Challenge.RW_stillopen_k03_whole_prefixes_streams_end
set_option Elab.async false
set_option linter.all false
set_option maxRecDepth 100000
set_option maxHeartbeats 4000000
namespace SoGx
open PySem PySem.Spec PyProof.Rows L2 GxR
/-- an element that may ask the module's names too -/
def EltG (prog : Program) (w : World) (mg : Str → Option Value) (scope : Scope) (x : Str) (elt : Expr) (pb : Nat → Bool) : Prop :=
  ∀ (cenv : Env) (A' : Around) (E' : Value → Shared → Prop) (c : Nat) (t : Tok) (z : Shared) (m : Str → Option Value),
    cenv.scope = scope → cenv.globals = mainGlobals → z.heap.Ns mainGlobals mg → z.heap.Ns cenv.locals m → m x = some (.str ⟨#[c]⟩ t) →
      wpAny (model prog w) A' (eval elt cenv) (fun y z' => y = .bool (pb c) ∧ Keeps z z') E' z
/-- x in NAME, NAME a text of the module -/
theorem elt_in {prog : Program} {w : World} {mg : Str → Option Value} {scope : Scope} {x g : Str} {l : Str} {tl : Tok} {p1 p2 p3 : Pos}
    (hk : scope.kind = .function) (hl : scope.names.lookup x = some .local) (hgl : scope.names.lookup g = some .globalImplicit) (hm : mg g = some (.str l tl))
    (hd : (x == ("__debug__" : Str)) = false := by decide) (hd2 : (g == ("__debug__" : Str)) = false := by decide) :
    EltG prog w mg scope x (.Compare (.Name x p1) [.In] [.Name g p2] p3) (fun c => decide (c ∈ l.cps.toList)) := by
  intro cenv A' E' c t z m hs hgs hG hn hx
  refine wpAny_Compare1 ?_
  refine wpAny_Name (wpAny_loadName_local (by rw [hs]; exact hk) (show cenv.scope.names.lookup x = some .local by rw [hs]; exact hl) hn hx ?_) hd
  refine Calls.Name_function_global (by rw [hs]; exact hk) (show cenv.scope.names.lookup g = some .globalImplicit by rw [hs]; exact hgl)
    (Calls.loadGlobal_global (by rw [hgs]; exact hG) hm ?_) hd2
  refine PyProof.Rows.in_str ⟨?_, keeps_refl _⟩
  rw [PySem.StrLaws.found_one l c]
section
variable {X : Cx} {pins : List (Addr × Obj)} {σ : L2.St} {H : Hp} {s : Shared}
theorem gen_glob {c P : Addr} {elt iter : Expr} {x : Str} {px gpos : Pos} {scope : Scope} {pb : Nat → Bool} {te : TE} {k : Nat}
    {W' : Value → Shared → Prop} {R : Str → Hp → Prop} (hr : Room k X.A) (TB : TabB X.base X.mg c P) (hcode : X.env.code = .ref c)
    (S : GenS X.env scope x) (hi : PE X iter te) (hel : EltG X.prog X.w X.mg scope x elt pb) (hs : ∀ v, genFold iter X.env v = pure v)
    (I : Inv X pins σ H s) (h : te σ H fun v H1 => ∃ a : Str, v = .str a ∧ TabG H1 P ∧ R a H1)
    (hQ : ∀ a H1 g z, R a H1 → Ready X pins σ H1 P a pb g z → W' (.ref g) z) :
    wpAny (model X.prog X.w) X.A (eval (.GeneratorExp elt [⟨.Name x px, iter, [], 0⟩] scope gpos) X.env) W' X.xe s := by
  have deep : X.A.depth < recursionLimit := by
    have := hr.dp
    omega
  refine wpAny_GeneratorExp_walksQ hr.hd S.co (closure_ok S.free) S.cell S.dot S.loc S.kind deep ?_ hs
  refine thn (hi.run pins s σ H _ I h) fun u z hz => ?_
  obtain ⟨v, J, I1, rv, a, rfl, ⟨ps, hP, ht⟩, hR⟩ := hz
  obtain ⟨t, rfl⟩ := _root_.id rv
  refine wpAny_pyIter_str fun o St W hst => ?_
  have atP : z.heap.get? P = some { cls := .none, data := .fields ps } := I1.hok P _ hP
  have ltP : P < z.heap.objs.size := Heap.lt_size atP
  have atP' : (z.heap.push o).get? P = some { cls := .none, data := .fields ps } := Heap.get?_push_of_some _ atP
  have cd : PySem.W.CodeHd (z.heap.push o) c P := TB.code.keeps fun b u e => Heap.get?_push_of_some _ (I1.bk b u e)
  have noL : (z.heap.push o).NoLimit := I1.nolimit.push o
  have szo : (z.heap.push o).objs.size = z.heap.objs.size + 1 := Heap.size_push ..
  refine ⟨noL, ?_⟩
  -- what comes behind the code object, however it was found
  have cont : ∀ (code : Value) (h3 : Heap) (tk : Nat) (qs : Array Value), Heap.ExtBut P (z.heap.push o) h3 → (z.heap.push o).objs.size ≤ h3.objs.size →
      h3.get? P = some { cls := .none, data := .fields qs } → (∃ more, qs = ps ++ more) → TriplesOk qs.toList →
      wpAny (model X.prog X.w) X.A (builtinsFor X.env.globals X.env.builtins) (fun bi r =>
        ∃ Ia fp wr n₀ Pf St₀ pz F, Value.ref z.heap.objs.size = .ref Ia ∧ (∀ A' : Around, A'.handled = none → Walks X.prog X.w A' Ia fp wr n₀ Pf St₀) ∧
          St₀ 0 r.heap ∧ (∀ b ∈ fp, b < r.heap.objs.size) ∧ r.heap.NoLimit ∧ cStatics ∉ wr ∧
          (∀ href : Heap, (∀ b o, r.heap.get? b = some o → href.get? b = some o) →
            QuietGen X.prog X.w (genEnv scope (cloFrom X.env.cells scope.names []) r.heap.objs.size code bi X.env) x [] elt (List.range r.heap.objs.size) wr Pf pz F href) ∧
          (∀ a h₅ tk gs, gs.bare = true → r.heap.objs.size < a → h₅.objs.size = a + 1 → (∀ b o, r.heap.get? b = some o → h₅.get? b = some o) →
            WalksS X.prog X.w X.A.in4 a (a :: r.heap.objs.size :: List.range r.heap.objs.size) (r.heap.objs.size :: wr) (GenOnlyQ r.gens.size) (passing pz n₀ 0).length
              (fun j y => ∃ i, (passing pz n₀ 0)[j]? = some i ∧ F i y) (GenAt X.prog X.w X.A.in4 a r.gens.size r.heap.objs.size (List.range r.heap.objs.size) wr pz n₀ F) →
            GenAt X.prog X.w X.A.in4 a r.gens.size r.heap.objs.size (List.range r.heap.objs.size) wr pz n₀ F 0 { r with gens := r.gens.push gs, toks := tk, heap := h₅ } →
            W' (.ref a) { r with gens := r.gens.push gs, toks := tk, heap := h₅ })) X.xe { z with heap := h3, toks := tk } := by
    intro code h3 tk qs hx hsz hP3 hmore ht3
    obtain ⟨bm, ob, e1, e2, e3, e4, e5, e6, e7, e8⟩ := TB.bm
    have cP : cStatics ≠ P := fun e => by
      obtain ⟨_, hns, _⟩ := I1.nolimit
      obtain ⟨o', es, ep, ho, hd, _⟩ := hns
      rw [e, atP] at ho
      cases ho
      cases hd
    have cLt : cStatics < z.heap.objs.size := let ⟨_, hns, _⟩ := I1.nolimit; hns.lt
    have stay : ∀ b u, b ≠ P → z.heap.get? b = some u → h3.get? b = some u := fun b u hb e => hx b u hb (Heap.get?_push_of_some _ e)
    have gl3 : h3.Ns mainGlobals X.mg := ((I1.mod.glob.keeps I1.bk).push o).extBut hx TB.gP
    refine wpAny_builtinsFor (m := X.mg) (by rw [I1.ok.glob]; exact gl3) e1 e2 (stay _ _ e4 (I1.bk _ _ e5)) e6 e7 e8 ?_
    refine ⟨z.heap.objs.size, [z.heap.objs.size], [z.heap.objs.size], a.cps.size, SignAt a, St, (fun _ => true),
      (fun i y => ∃ cc, a.cps[i]? = some cc ∧ y = .bool (pb cc)), rfl, W, ?_, ?_, noL.extBut hx cP, ?_, ?_, ?_⟩
    · refine (W X.A hr.hd).frame _ _ _ hst fun b hb u e => hx b u (fun q => ?_) e
      rcases List.mem_cons.mp hb with q2 | q2
      · exact Nat.ne_of_lt ltP (q.symm.trans q2)
      · cases q2
    · intro b hb
      rcases List.mem_cons.mp hb with q | q
      · rw [q]
        show z.heap.objs.size < h3.objs.size
        omega
      · cases q
    · intro q
      rcases List.mem_cons.mp q with q | q
      · exact Nat.ne_of_lt cLt q
      · cases q
    · intro href hh
      refine ⟨fun A' E' i v s₂ m₂ hA hPv hn hm hk => ?_, fun A' E' i v s₂ m₂ hA hPv hp hn hm hk => ?_⟩
      · simp only [List.forIn_nil]
        exact wpAny_pure ⟨rfl, keeps_refl _⟩
      · obtain ⟨cc, u, hcc, rfl⟩ := hPv
        have gl : s₂.heap.Ns mainGlobals X.mg := by
          obtain ⟨og, es, ep, ho, r⟩ := gl3
          have lt3 : mainGlobals < h3.objs.size := Heap.lt_size ho
          refine ⟨og, es, ep, hk mainGlobals (List.mem_range.mpr lt3) (fun q => ?_) og (hh _ _ ho), r⟩
          rcases List.mem_cons.mp q with q | q
          · obtain ⟨o9, _, _, ho9, _⟩ := I1.mod.glob.keeps I1.bk
            have := Heap.lt_size ho9
            rw [q] at this
            exact Nat.lt_irrefl _ this
          · cases q
        exact wpAny_mono (hel _ A' E' cc u s₂ m₂ rfl I1.ok.glob gl hn hm) (fun y s3 r => ⟨⟨cc, hcc, r.1⟩, r.2⟩) fun _ _ e => e
    · intro g h5 tk5 gs hgb hag hsz5 hk5 W5 hat
      simp only [GxR.passing_true, List.length_range] at W5
      refine hQ a J g _ hR ⟨_, _, _, _, _, W5.in4_1, hat, ?_, fun r hm => ?_⟩
      · intro j y sj Qj Ej hy hQj
        obtain ⟨i, hij, cc, hcc, rfl⟩ := hy
        obtain ⟨hj, ej⟩ := List.getElem?_eq_some_iff.mp hij
        rw [List.getElem_range] at ej
        subst ej
        have e9 : a.cps.toList[j]? = some cc := by rw [Array.getElem?_toList]; exact hcc
        have hQ2 : Qj (trF pb a.cps.toList j) sj := hQj
        rw [trF_some e9] at hQ2
        exact wpAny_truthy_bool hQ2
      · obtain ⟨more, em⟩ := hmore
        have nwr : ∀ b u, z.heap.get? b = some u → b ∉ h3.objs.size :: [z.heap.objs.size] := fun b u e hb => by
          have hl := Heap.lt_size e
          have hsz' : z.heap.objs.size + 1 ≤ h3.objs.size := by rw [← szo]; exact hsz
          rcases List.mem_cons.mp hb with q | q
          · have h9 : b = h3.objs.size := q
            have hl' : b < z.heap.objs.size := hl
            rw [h9] at hl'
            exact Nat.lt_irrefl _ (Nat.lt_of_lt_of_le hl' (Nat.le_trans (Nat.le_succ _) hsz'))
          · rcases List.mem_cons.mp q with q | q
            · rw [q] at hl
              exact Nat.lt_irrefl _ hl
            · cases q
        have G1 := inv_tab (more := more) (h' := r.heap) (g' := r.gens) (d' := r.drawn) (t' := r.toks) I1 hP
          (fun b u hb e => hm.heap b u (nwr b u e) (hk5 b u (stay b u hb e))) (by rw [← em]; exact hm.heap P _ (nwr P _ atP) (hk5 P _ hP3)) (AllBare.movedS (I1.bare.push hgb) hm)
        rw [sh_eta z r hm.os] at G1
        exact ⟨upd J P (.tbl (ps ++ more)), ⟨⟨ps ++ more, upd_same, by rw [← em]; exact ht3⟩, fun b hb => upd_ne hb⟩, G1⟩
  cases hf : codeAmong gpos ps.toList with
  | none =>
    refine wpAny_genexprCodeX hcode (cd.code atP' ht) (cd.tab atP') hf fun c' h' tk hx hge hlt hco' _ htab' _ => ?_
    obtain ⟨o1, vs, f1, tf, fl, tg, inF, tx, tt, op, _, _, _, _, _, _, _, _, _, htr, _⟩ := hco'
    exact cont _ h' tk _ hx (Nat.le_trans hge (Nat.le_of_lt hlt)) htab'.2 ⟨_, rfl⟩ htr
  | some cv =>
    refine wpAny_genexprCode_hit hcode (cd.code atP' ht) hf ?_
    exact cont cv (z.heap.push o) z.toks ps (Heap.ExtBut.refl _ _) (Nat.le_refl _) atP' ⟨#[], by simp⟩ ht
/-- all(elt for x in e), e a text, the element asking the module's names -/
theorem pe_allG {c P : Addr} {elt iter : Expr} {x : Str} {px p pos gpos : Pos} {scope : Scope} {pb : Nat → Bool} {te : TE} {k : Nat}
    (hr : Room k X.A) (hg : Gl X "all") (hm : X.mg "all" = none) (hb : bootBuiltins "all" = some (.builtin "all")) (TB : TabB X.base X.mg c P)
    (hcode : X.env.code = .ref c) (S : GenS X.env scope x) (hi : PE X iter te) (hel : EltG X.prog X.w X.mg scope x elt pb) (hs : ∀ v, genFold iter X.env v = pure v)
    (he : starEach [.GeneratorExp elt [⟨.Name x px, iter, [], 0⟩] scope gpos] X.env =
      (false, eval (.GeneratorExp elt [⟨.Name x px, iter, [], 0⟩] scope gpos) X.env) :: starEach [] X.env := by rfl) :
    PE X (.Call (.Name "all" p) [.GeneratorExp elt [⟨.Name x px, iter, [], 0⟩] scope gpos] [] pos) (tAllS P pb te) := by
  refine ⟨fun pins s σ H Q I h => ?_⟩
  refine wpAny_Call_Name_kw (ld_blt I hg hm hb ?_)
  refine PyProof.Rows.callWith_builtin1 ?_ he (by rfl)
  rw [he]
  show wpAny _ _ (spliced ((false, eval (.GeneratorExp elt [⟨.Name x px, iter, [], 0⟩] scope gpos) X.env) :: backTo pos (starEach [] X.env))) _ _ s
  refine Calls.spliced_cons (gen_glob (R := fun a H1 => ∀ H2, Tabbed P H1 H2 → Q (.bl (a.cps.toList.all pb)) H2) hr TB hcode S hi hel hs I h fun a H1 g z hR hG => ?_)
  obtain ⟨fp, wr, G, F, St, W, hst, htr, hI⟩ := hG
  refine Calls.spliced_nil ?_
  refine call_all_walkS (W.self 0 _ _ _ hst ⟨g, fp, wr, G, _, F, St, _, rfl, W, hst, htr, fun r hmv => ?_⟩)
  obtain ⟨H2, hT, J⟩ := hI r hmv
  refine ⟨.bl _, H2, J, rfl, ?_⟩
  rw [all_signs a pb]
  exact hR H2 hT
end
end SoGx

set_option Elab.async false
set_option linter.all false
set_option maxRecDepth 100000
set_option maxHeartbeats 4000000
namespace So
open PySem PySem.Spec PyProof.Rows L2
abbrev TabG := @GxR.TabG
/-- all but the table at P stands as before; the table stands still a table -/
def Sm (P : Addr) (H H' : Hp) : Prop := (∀ b o, b ≠ P → H b = some o → H' b = some o) ∧ GxR.TabG H' P
theorem tab_tup {H : Hp} {P b : Addr} {u : HO} (t : GxR.TabG H P) (h : H b = some u) (n : ∀ ps, u ≠ .tbl ps) : b ≠ P := fun z => by
  obtain ⟨ps, e, _⟩ := t
  rw [z, e] at h
  exact n ps (Option.some.inj h).symm
theorem Sm.refl {P : Addr} {H : Hp} (t : GxR.TabG H P) : Sm P H H := ⟨fun _ _ _ h => h, t⟩
theorem Sm.trans {P : Addr} {H H1 H2 : Hp} (a : Sm P H H1) (b : Sm P H1 H2) : Sm P H H2 := ⟨fun c o n h => b.1 c o n (a.1 c o n h), b.2⟩
theorem Sm.new {P p : Addr} {H : Hp} {o : HO} (t : GxR.TabG H P) (h : H p = none) : Sm P H (upd H p o) := by
  obtain ⟨ps, e, r⟩ := t
  refine ⟨fun b u _ e => ?_, ⟨ps, ?_, r⟩⟩
  · rw [upd_ne (ne_of_none e h)]
    exact e
  · rw [upd_ne (ne_of_none e h)]
    exact e
/-- what H does not know may change -/
theorem Sm.mut {P p : Addr} {H H' : Hp} {o : HO} (a : Sm P H H') (h : H p = none) (n : p ≠ P) : Sm P H (upd H' p o) := by
  obtain ⟨k, ps, e, r⟩ := a
  refine ⟨fun b u nb e => ?_, ⟨ps, ?_, r⟩⟩
  · rw [upd_ne (ne_of_none e h)]
    exact k b u nb e
  · rw [upd_ne (Ne.symm n)]
    exact e
theorem Sm.of_tabbed {P : Addr} {H H' : Hp} (h : GxR.Tabbed P H H') : Sm P H H' := ⟨fun b o n e => by rw [h.2 b n]; exact e, h.1⟩
section
variable {K : PySem.W.Frag} {P a : Addr} {H H' : Hp} {xs : List V}
theorem Sm.tup (t : GxR.TabG H P) (s : Sm P H H') (h : SqT K H a xs) : SqT K H' a xs := by
  rcases h with (h | ⟨o, h⟩) | h
  · exact .inl (.inl (s.1 _ _ (tab_tup t h (fun _ q => nomatch q)) h))
  · exact .inl (.inr ⟨o, s.1 _ _ (tab_tup t h (fun _ q => nomatch q)) h⟩)
  · exact .inr h
theorem Sm.lst (t : GxR.TabG H P) (s : Sm P H H') (h : SqL K H a xs) : SqL K H' a xs := by
  rcases h with (h | ⟨o, h⟩) | h
  · exact .inl (.inl (s.1 _ _ (tab_tup t h (fun _ q => nomatch q)) h))
  · exact .inl (.inr ⟨o, s.1 _ _ (tab_tup t h (fun _ q => nomatch q)) h⟩)
  · exact .inr h
theorem Sm.atL (t : GxR.TabG H P) (s : Sm P H H') (h : H a = some (.lst xs)) : H' a = some (.lst xs) := s.1 _ _ (tab_tup t h (fun _ q => nomatch q)) h
theorem Sm.free (s : Sm P H H') (t : GxR.TabG H P) (h : H' a = none) : H a = none := by
  cases q : H a with
  | none => rfl
  | some o =>
    by_cases e : a = P
    · obtain ⟨ps, z, _⟩ := s.2
      rw [e, z] at h
      cases h
    · rw [s.1 _ _ e q] at h
      cases h
end
/-- a def of the text as its callers need it -/
structure Df (K : PySem.W.Frag) (mg : Str → Option Value) (x : Str) (st : Stmt) (ps : List Str) (f : Addr) (fd : FuncData) : Prop where
  F : Fun K x x st f fd
  g : mg x = some (.ref f)
  b : Binds K fd ps []
/-- .. with its code object -/
structure DfC (K : PySem.W.Frag) (mg : Str → Option Value) (x : Str) (st : Stmt) (ps : List Str) (f : Addr) (fd : FuncData) (c : Addr) : Prop where
  ex : ∃ (oc : Value) (od : Option Addr) (kV doc pm : Value) (an : Option Addr) (ct : Value) (osl : Array (Option Value)),
    fd = PySem.W.fnOf x x (defArgs st) (defBody st) (defScope st) .none kV doc pm an (.ref c) ct ∧ K.lookup f = some ⟨oc, od, .func fd, osl⟩ ∧ PySem.W.codeIn K (.ref c) x = true
  kp : PySem.W.keepIn K (.ref f) = true
  g : mg x = some (.ref f)
  b : Binds K fd ps []
theorem DfC.ok {Pg : Program} {w : World} {K : PySem.W.Frag} {mg : Str → Option Value} {base : Heap} {x : Str} {st : Stmt} {f c : Addr} {fd : FuncData} {N ps : List Str} {k : Nat} {sp : Sp} {CX : CXT}
    (F : DfC K mg x st ps f fd c) (S : FnScope N ps (defScope st)) (len : ∀ vs H Q E, sp vs H Q E → vs.length = ps.length)
    (body : ∀ (A : Around) (outer : List Env) (s : Shared) (H : Hp) (vs : List V) (Q : VK) (E : XK), Room k (A.deeper (envOfC x (defScope st) s.heap.objs.size f (.ref c))) → sp vs H Q E →
      ∃ t, PSs (cxOf CX Pg w K mg base N x (defScope st) f (.ref c) A outer s H E) (defBody st) t ∧ t { nx := fun _ H' => Q .non H', rt := Q } (start N vs) H) :
    FnOk Pg w K mg base CX (k + 1) f fd ps sp := by
  obtain ⟨oc, od, kV, doc, pm, an, ct, osl, rfl, lk, hcd⟩ := F.ex
  exact fn_of lk hcd S len body
/-- a pure def: what it asks, what it gives, all else standing -/
def Pu (P : Addr) (pre : List V → Hp → (V → Hp → Prop) → Prop) : Sp := fun vs H Q _ => GxR.TabG H P ∧ ∃ R : V → Hp → Prop, pre vs H R ∧ ∀ v H', Sm P H H' → R v H' → Q v H'
end So

set_option Elab.async false
set_option linter.all false
set_option maxRecDepth 100000
set_option maxHeartbeats 4000000
namespace K6
open PySem PySem.Spec PyProof.Rows L2 So
def top (i : Nat) : Stmt := PySem.Challenge.pw_stillopen_k03_whole_prefixes_streams_end.main.body.getD i (.Pass ⟨0, 0, 0, 0⟩)
abbrev cOpenError : Stmt := top 1
abbrev cBadStream : Stmt := top 2
abbrev cRefused : Stmt := top 3
abbrev sNum : Stmt := top 8
abbrev sNub : Stmt := top 9
abbrev sSeq : Stmt := top 10
abbrev sLab : Stmt := top 11
abbrev sTxt : Stmt := top 12
abbrev sFau : Stmt := top 14
abbrev sSgn : Stmt := top 15
abbrev sRdl : Stmt := top 17
abbrev sStp : Stmt := top 18
abbrev sRwh : Stmt := top 19
abbrev sCpf : Stmt := top 20
abbrev sCst : Stmt := top 21
abbrev sIst : Stmt := top 22
abbrev sCen : Stmt := top 23
abbrev sIen : Stmt := top 24
abbrev sClo : Stmt := top 25
abbrev sDep : Stmt := top 26
abbrev sDps : Stmt := top 27
abbrev sOpl : Stmt := top 28
abbrev sNbh : Stmt := top 29
abbrev sBox : Stmt := top 31
abbrev sTak : Stmt := top 32
abbrev sPck : Stmt := top 33
abbrev sLtx : Stmt := top 34
abbrev sLdc : Stmt := top 35
abbrev sLsg : Stmt := top 36
abbrev sHrd : Stmt := top 37
abbrev sLed : Stmt := top 38
abbrev sLrw : Stmt := top 39
abbrev sPrr : Stmt := top 40
abbrev sVar : Stmt := top 41
abbrev sLaw : Stmt := top 42
end K6

set_option Elab.async false
set_option linter.all false
set_option maxRecDepth 100000
set_option maxHeartbeats 4000000
namespace SoE
open PySem PySem.Spec PyProof.Rows L2
/-! ### enumerate of a tuple -/
theorem enum_new {v : Value} {o : Obj} {Z : Heap → Prop} (B : Begins v o Z) :
    Meets (Builtin.«enumerate.__new__» ⟨[.type "enumerate", v], []⟩) (fun _ R s => Z s.heap ∧
      R (.ok (.ret (.ref (s.heap.push o).objs.size))) { s with heap := (s.heap.push o).push { cls := .type "enumerate", data := .fields #[.none, .bool false, .ref s.heap.objs.size, rawInt 0, .none, .none] } }) :=
  .of_wp fun prog w A R s h => by
    obtain ⟨hp, g, d, tk, os⟩ := s
    obtain ⟨z, r⟩ := h
    have hsub := sub_enumerate
    have it0 : ∀ {A' : Around} {E : Value → Shared → Prop} {Q : Value → Shared → Prop}, Q (.ref hp.objs.size) ⟨hp.push o, g, d, tk, os⟩ →
        wpAny (model prog w) A' (pyIter v) Q E ⟨hp, g, d, tk, os⟩ := fun q => B.iter prog w _ _ ⟨hp, g, d, tk, os⟩ _ z q
    wp_walk using it0
    refine wpAny_stack_any fun st => wpAny_pure ?_
    split
    · rename_i c _ _ _ _ _
      cases (c == Value.type "enumerate") <;> (wp_walk using it0; exact ⟨_, rfl, r⟩)
    · wp_walk using it0
      exact ⟨_, rfl, r⟩
theorem enum_call {prog : Program} {w : World} {A : Around} {E : Value → Shared → Prop} {s : Shared} {v : Value} {o : Obj} {Z : Heap → Prop} {Q : Value → Shared → Prop} (B : Begins v o Z) (z : Z s.heap)
    (h : ∀ h', IsEnum h' (s.heap.objs.size + 1) s.heap.objs.size 0 .none → h'.get? s.heap.objs.size = some o → h'.objs.size = s.heap.objs.size + 2 →
      (∀ b u, s.heap.get? b = some u → h'.get? b = some u) → Q (.ref (s.heap.objs.size + 1)) { s with heap := h' }) : wpAny (model prog w) A (call (.type "enumerate") [v]) Q E s := by
  refine callType_new F.called_enumerate (by decide) (F.typeCall_enumerate_1 _) (F.newCall_enumerate_1 _) (fun obj => F.args_object_init_2 obj _) F.entry_enumerate_new (enum_new B) ⟨z, ?_⟩
  have sz : (s.heap.push o).objs.size = s.heap.objs.size + 1 := Heap.size_push ..
  show _ ∧ _
  rw [sz]
  have he : IsEnum ((s.heap.push o).push { cls := .type "enumerate", data := .fields #[.none, .bool false, .ref s.heap.objs.size, rawInt 0, .none, .none] }) (s.heap.objs.size + 1) s.heap.objs.size 0 .none := by
    have q := Heap.get?_push_size (s.heap.push o) (o := { cls := .type "enumerate", data := .fields #[.none, .bool false, .ref s.heap.objs.size, rawInt 0, .none, .none] }) rfl
    rw [sz] at q
    exact q
  exact ⟨⟨_, he, rfl⟩, h _ he (Heap.get?_push_of_some _ (Heap.get?_push_size _ B.free)) (by rw [Heap.size_push, sz]) fun b u x => Heap.get?_push_of_some _ (Heap.get?_push_of_some _ x)⟩
/-- the tuple at a, each item in a new pair with its place -/
def IteT (K : PySem.W.Frag) (a : Addr) : It :=
  ⟨fun i H => ∃ (xs : List V) (x : V), SqT K H a xs ∧ xs[i]? = some x,
    fun i H v H' => ∃ T x, v = .ref T ∧ H T = none ∧ H' = upd H T (.tup [.int (i : Nat), x]) ∧ ∀ xs, SqT K H a xs → xs[i]? = some x,
    fun i H => ∃ xs : List V, SqT K H a xs ∧ xs.length = i⟩
theorem walk_enumT {K : PySem.W.Frag} {a : Addr} {xs : List V} : Walk (IteT K a) xs.length (fun H => SqT K H a xs) (YPair (fun i => some (.int (i : Nat))) (fun i => xs[i]?)) := by
  refine ⟨fun i _ hi q => ⟨xs, xs[i], q, by simp [hi]⟩, fun _ q => ⟨xs, q, rfl⟩, fun i H v H' _ q y => ?_⟩
  obtain ⟨T, x, h1, h2, h3, h4⟩ := y
  exact ⟨T, .int (i : Nat), x, h1, h2, h3, rfl, h4 xs q⟩
theorem turn_enumT {P : Program} {w : World} {K : PySem.W.Frag} {elts : List Expr} {kk : Nat} {tpos : Pos} (a e it : Addr) :
    Turn P w K (.Tuple elts kk tpos) (IteT K a) [e, it] e (fun i h => (∃ old, IsEnum h e it ((i : Nat) : Int) old) ∧ h.IsTupleIter it a i ∧ e ≠ it) where
  mem := by simp
  obj := fun i h st b hb => by
    obtain ⟨⟨old, he⟩, ⟨o, ho, hc, hd⟩, _⟩ := st
    have e' : b = e ∨ b = it := by simpa using hb
    rcases e' with z | z
    · rw [z]; exact ⟨_, he, fun v q => nomatch q⟩
    · rw [z]; exact ⟨o, ho, fun v q => by rw [hd] at q; cases q⟩
  keep := fun i h h' st k => let ⟨⟨old, he⟩, hi, hne⟩ := st; ⟨⟨old, k e (by simp) _ he⟩, hi.at fun o q => k it (by simp) o q, hne⟩
  item := by
    intro X hP hw hK hc i pins s σ H E I hf st hg
    subst hP hw hK
    obtain ⟨⟨old, he⟩, hit, hne⟩ := st
    obtain ⟨xs, x, hq, hx⟩ := hg
    obtain ⟨its, rv, p, hz⟩ := I.tuple hq
    have pt : s.heap.IsTuple a its.toArray := p
    obtain ⟨u, hu, ru⟩ := rv.get hx
    have hel : e < s.heap.objs.size := Heap.lt_size he
    have hil : it < s.heap.objs.size := by obtain ⟨_, q, _⟩ := hit; exact Heap.lt_size q
    have nai : a ≠ it := fun z => by
      obtain ⟨o1, q1, c1, _⟩ := hit
      obtain ⟨o2, q2, c2, _⟩ := pt
      rw [z, q1] at q2
      cases q2
      rw [c1] at c2
      exact absurd c2 (by simp)
    have nae : e ≠ a := fun z => by
      obtain ⟨o2, q2, c2, _⟩ := pt
      rw [← z] at q2
      have he' : s.heap.get? e = some _ := he
      rw [he'] at q2
      cases q2
      exact absurd c2 (by simp)
    have hlt : i < its.toArray.size := by
      have q := (List.getElem?_eq_some_iff.mp hu).1
      simpa using q
    refine wpAny_pyNext_enum_itemC (Draws.tuple (A := X.A.in1) (I.ok.hd hc) it a nai its.toArray) he ⟨hit, pt⟩ hlt hne (by simp [hne, nae]) fun y h' tk hPy ho hst' hT hsz hk => ?_
    have hy : y = u := by
      have q : its.toArray[i]? = some u := by simpa using hu
      have q2 : its.toArray[i]? = some y := hPy
      rw [q] at q2
      exact (Option.some.inj q2).symm
    subst hy
    refine ⟨_, rfl, wpAny_letOwnedTupleGo_enum (s := { s with heap := h', toks := tk + 1 }) ho fun h'' he' sb => ?_⟩
    have hT2 : h''.get? s.heap.objs.size = some { cls := .type "tuple", data := .seq #[.int i tk, y] } := (sb.2 _ (Nat.ne_of_gt hel)).trans hT
    have new : ObjOk X.prog X.w (upd H s.heap.objs.size (.tup [.int (i : Nat), x])) h'' s.heap.objs.size (.tup [.int (i : Nat), x]) :=
      ⟨by show 2 ≤ sizeLine; decide, [.int i tk, y], .cons ⟨_, rfl⟩ (.cons ru .nil), ⟨_, hT2, rfl, _, rfl⟩⟩
    have I1 : Inv X pins σ (upd H s.heap.objs.size (.tup [.int (i : Nat), x])) { s with heap := h'', toks := tk + 1 } :=
      I.turnedNew (ch := [e, it]) (fun b ob hb q => (sb.2 b (fun z => hb (by simp [z]))).trans (hk b ob (fun z => hb (by simp [z])) (fun z => hb (by simp [z])) q)) hf (Nat.le_refl _) new
    refine ⟨.ref s.heap.objs.size, _, I1, rfl, ⟨_, x, rfl, I.hok.fresh (Nat.le_refl _), rfl, fun ys hy => by rw [I.tuple_inj hy hq]; exact hx⟩, ⟨⟨y, ?_⟩, hst'.1.at fun o q => (sb.2 it (Ne.symm hne)).trans q, hne⟩, fun b hb => ?_⟩
    · have e1 : ((i + 1 : Nat) : Int) = (i : Int) + 1 := by omega
      rw [e1]; exact he'
    · have hb' : b < s.heap.objs.size := by
        have e' : b = e ∨ b = it := by simpa using hb
        rcases e' with z | z
        · rw [z]; exact hel
        · rw [z]; exact hil
      rw [upd_ne (Nat.ne_of_lt hb')]
      exact (hf b hb).1
  done := by
    intro X hP hw hK hc i pins s σ H E I hf st hg
    subst hP hw hK
    obtain ⟨⟨old, he⟩, hit, hne⟩ := st
    obtain ⟨xs, hq, hx⟩ := hg
    obtain ⟨its, rv, p, hz⟩ := I.tuple hq
    have pt : s.heap.IsTuple a its.toArray := p
    have nai : a ≠ it := fun z => by
      obtain ⟨o1, q1, c1, _⟩ := hit
      obtain ⟨o2, q2, c2, _⟩ := pt
      rw [z, q1] at q2
      cases q2
      rw [c1] at c2
      exact absurd c2 (by simp)
    obtain ⟨f0, f1, f2, f3, f4, f5⟩ := hf it (by simp)
    have hl := rv.length
    have en : i = its.toArray.size := by
      rw [List.size_toArray]
      omega
    subst en
    exact wpAny_pyNext_enum_endD (Draws.tuple (A := X.A.in1) (I.ok.hd hc) it a nai its.toArray) he ⟨hit, pt⟩ fun h' eb => ⟨rfl, I.turned (t' := s.toks) (fun b o hb q => eb b o hb q) f0 f1 f3 f4 f5⟩
  self := fun A i s Q E st h => let ⟨⟨_, he⟩, _⟩ := st; wpAny_pyIter_enum he h
def iEnumT (K : PySem.W.Frag) (ta : TA) : TI := fun σ H R => ta σ H fun vs H1 => ∃ a xs, vs = [.ref a] ∧ SqT K H1 a xs ∧ R (IteT K a) H1
theorem pi_enumT {X : Cx} {e : Expr} {ta : TA} {p pos tpos : Pos} {elts : List Expr} {kk : Nat} (hg : Gl X "enumerate") (hm : X.mg "enumerate" = none) (ha : PA X [e] ta) (hs : starEach [e] X.env = [(false, eval e X.env)] := by rfl) :
    PI X (.Tuple elts kk tpos) (.Call (.Name "enumerate" p) [e] [] pos) (iEnumT X.K ta) := by
  refine ⟨fun pins s σ H R I h => ?_⟩
  refine Call_ (ld_blt I hg hm boot_enumerate (PyProof.Rows.callWith_type1 (thn (ha.run pos pins s σ H _ I h) fun us z hz => ?_) hs rfl))
  obtain ⟨vs, H1, I1, r1, a, xs, rfl, hq, q⟩ := hz
  cases r1 with
  | cons r rr =>
    cases rr
    cases r
    obtain ⟨its, rv, p', hz⟩ := I1.tuple hq
    refine enum_call (begins_tuple a its.toArray) (show z.heap.IsTuple a its.toArray from p') fun h' he hit hsz hk => wpAny_pyIter_enum he ?_
    have I2 : Inv X pins σ H1 { z with heap := h' } := I1.kept (t' := z.toks) hk
    refine ⟨z.heap.objs.size + 1, [z.heap.objs.size + 1, z.heap.objs.size], _, _, H1, rfl, I2, turn_enumT a (z.heap.objs.size + 1) z.heap.objs.size, ⟨⟨.none, he⟩, ⟨_, hit, rfl, rfl⟩, Nat.succ_ne_self _⟩, fun b hb => ?_, q⟩
    have e' : b = z.heap.objs.size + 1 ∨ b = z.heap.objs.size := by simpa using hb
    have hle : z.heap.objs.size ≤ b := by
      rcases e' with y | y
      · rw [y]; exact Nat.le_add_right _ _
      · rw [y]; exact Nat.le_refl _
    exact I1.fpOk hle (I1.hok.fresh hle)
end SoE

set_option Elab.async false
set_option linter.all false
set_option maxRecDepth 100000
set_option maxHeartbeats 4000000
namespace SoM
open PySem PySem.Spec PyProof.Rows L2
/-! ### a tuple that isn't empty, no times, once -/
theorem mul_none (l : Addr) (items : Array Value) (n : Nat) (dd : Option Addr) (sl : Array (Option Value)) (u : Tok) (hi : items.isEmpty = false) :
    Meets (Builtin.«tuple.__mul__» ⟨[.ref l, .int 0 u], []⟩) (fun _ R s => s.heap.get? l = some { cls := .type "tuple", dict := dd, data := .seq items n, slots := sl } ∧
      R (.ok (.ret (Value.ref s.heap.objs.size))) { s with heap := s.heap.push { cls := Value.type "tuple", data := Data.seq #[] }, toks := s.toks }) :=
  .of_wp fun prog w A R s h => by
    obtain ⟨hp, g, d, tk, os⟩ := s
    obtain ⟨hl, h⟩ := h
    have f1 := AutoSeq1.idx_int
    wp_walk using wpAny_loadPart' hl
    repeat (first
      | (refine wpAny_ite_false (decide_eq_false (by rw [hi]; decide)) ?_; wp_walk using wpAny_loadPart' hl)
      | (refine wpAny_ite_true (decide_eq_true (by rw [hi]; decide)) ?_; wp_walk using wpAny_loadPart' hl))
    exact ⟨_, rfl, h⟩
theorem mul_once (l : Addr) (items : Array Value) (n : Nat) (dd : Option Addr) (sl : Array (Option Value)) (u : Tok) (hi : items.isEmpty = false) :
    Meets (Builtin.«tuple.__mul__» ⟨[.ref l, .int 1 u], []⟩) (fun _ R s => s.heap.get? l = some { cls := .type "tuple", dict := dd, data := .seq items n, slots := sl } ∧
      R (.ok (.ret (Value.ref l))) s) :=
  .of_wp fun prog w A R s h => by
    obtain ⟨hp, g, d, tk, os⟩ := s
    obtain ⟨hl, h⟩ := h
    have f1 := AutoSeq1.idx_int
    wp_walk using wpAny_loadPart' hl
    repeat (first
      | (refine wpAny_ite_false (decide_eq_false (by rw [hi]; decide)) ?_; wp_walk using wpAny_loadPart' hl)
      | (refine wpAny_ite_true (decide_eq_true (by rw [hi]; decide)) ?_; wp_walk using wpAny_loadPart' hl))
    exact ⟨_, rfl, h⟩
def rRepS (K : PySem.W.Frag) : R2 := fun x y H Q => ∃ l k xs, x = .ref l ∧ y = .int k ∧ SqT K H l xs ∧ xs ≠ [] ∧ 0 ≤ k ∧ k ≤ 1000 ∧ xs.length ≤ 1000 ∧ (k = 1 → Q (.ref l) H) ∧ (k ≠ 1 → ∀ p, H p = none → Q (.ref p) (upd H p (.tup (List.replicate k.toNat xs).flatten)))
theorem op_repS {X : Cx} : OpR X (binaryOp .Mult) (rRepS X.K) := by
  intro pins s σ H x y v u Q I rx ry h
  obtain ⟨l, k, xs, rfl, rfl, hT, hne, h1, h2, hz, q1, q2⟩ := h
  by_cases k2 : 2 ≤ k
  · exact op_repT pins s σ H _ _ v u Q I rx ry ⟨l, k, xs, rfl, rfl, hT, hne, k2, h2, hz, q2 (by omega)⟩
  cases rx
  obtain ⟨t, rfl⟩ := ry
  obtain ⟨its, r, ⟨⟨cls, dd, data, sl⟩, ho, hc, n, hd⟩, hs⟩ := I.tuple hT
  simp only at hc hd
  subst hc hd
  have hn : its ≠ [] := fun e => hne (by
    have hle := r.length
    rw [e] at hle
    exact List.eq_nil_of_length_eq_zero hle)
  have hi : its.toArray.isEmpty = false := by
    cases its with
    | nil => exact absurd rfl hn
    | cons a b => rfl
  by_cases k1 : k = 1
  · subst k1
    refine wpAny_binaryOp_repeat_ref (T := "tuple") (U := "int") (by decide) ⟨_, ho, rfl⟩ (fun s' => typeIs_int s' 1 t) noFill_tuple_mul F.fills_int_mul F.slot_int_rmul repeat_tuple F.slot_int_index.lookup
      (call_meets F.slot_int_rmul (typeIs_int s 1 t) F.entry_int_rmul (F.args_int_rmul_2 _ _) (int_rmul_tuple 1 t l its.toArray n dd sl)
        ⟨ho, rfl, ⟨_, ho, rfl⟩, call_meets F.slot_tuple_mul ⟨_, ho, rfl⟩ F.entry_tuple_mul (F.args_tuple_mul_2 _ _) (mul_once l its.toArray n dd sl t hi) ⟨ho, ?_⟩⟩)
    exact ⟨.ref l, H, I, rfl, q1 rfl⟩
  · have k0 : k = 0 := by omega
    subst k0
    refine wpAny_binaryOp_repeat_ref (T := "tuple") (U := "int") (by decide) ⟨_, ho, rfl⟩ (fun s' => typeIs_int s' 0 t) noFill_tuple_mul F.fills_int_mul F.slot_int_rmul repeat_tuple F.slot_int_index.lookup
      (call_meets F.slot_int_rmul (typeIs_int s 0 t) F.entry_int_rmul (F.args_int_rmul_2 _ _) (int_rmul_tuple 0 t l its.toArray n dd sl)
        ⟨ho, rfl, ⟨_, ho, rfl⟩, call_meets F.slot_tuple_mul ⟨_, ho, rfl⟩ F.entry_tuple_mul (F.args_tuple_mul_2 _ _) (mul_none l its.toArray n dd sl t hi) ⟨ho, ?_⟩⟩)
    refine ⟨.ref s.heap.objs.size, _, I.laid (t' := s.toks) (o := .tup (List.replicate (0 : Int).toNat xs).flatten) (fun b ob q => Heap.get?_push_of_some _ q) (Nat.le_refl _) ?_, rfl, q2 k1 _ (I.hok.fresh (Nat.le_refl _))⟩
    exact ⟨Nat.zero_le _, [], .nil, IsTup.new _ _⟩
end SoM

set_option Elab.async false
set_option linter.all false
set_option maxRecDepth 100000
set_option maxHeartbeats 4000000
/-! the checks of values, of any data -/
namespace K6
open PySem PySem.Spec PyProof.Rows L2 So
def lets : Str := "abcdefghijklmnopqrstuvwxyz"
structure Tx (K : PySem.W.Frag) (mg : Str → Option Value) : Prop where
  isi : mg "isinstance" = none
  list : mg "list" = none
  tuple : mg "tuple" = none
  len : mg "len" = none
  int : mg "int" = none
  bool : mg "bool" = none
  str : mg "str" = none
  all : mg "all" = none
  enumerate : mg "enumerate" = none
  reversed : mg "reversed" = none
  range : mg "range" = none
  abs : mg "abs" = none
  sorted : mg "sorted" = none
  min : mg "min" = none
  letters : ∃ t, mg "LETTERS" = some (.str lets t)
  lmost : ∃ t, mg "LABEL_MOST" = some (.int 12 t)
  tmost : ∃ t, mg "TEXT_MOST" = some (.int 65535 t)
structure Ty (K : PySem.W.Frag) (mg : Str → Option Value) : Prop where
  T : Tx K mg
  repr : mg "repr" = none
  max : mg "max" = none
/-! ### a list or a tuple -/
def Sq (K : PySem.W.Frag) (H : Hp) (a : Addr) (xs : List V) : Prop := SqT K H a xs ∨ SqL K H a xs
theorem Sq.mono {K : PySem.W.Frag} {P : Addr} {H H' : Hp} {a : Addr} {xs : List V} (t : GxR.TabG H P) (s : Sm P H H') (h : Sq K H a xs) : Sq K H' a xs := h.elim (fun h => .inl (s.tup t h)) (fun h => .inr (s.lst t h))
theorem len_sq {K : PySem.W.Frag} {H : Hp} {p : Addr} {xs : List V} (h : Sq K H p xs) : SqL K H p xs ∨ SqT K H p xs := h.symm
section
variable {X : Cx} {tg l : Expr} {tl : TE}
theorem pi_or {wi wi' : TI} (h : PI X tg l wi) (h' : PI X tg l wi') : PI X tg l (fun σ H R => wi σ H R ∨ wi' σ H R) := ⟨fun pins s σ H R I q => q.elim (h.run pins s σ H R I) (h'.run pins s σ H R I)⟩
def iSq (K : PySem.W.Frag) (tl : TE) : TI := fun σ H R => iTup K tl σ H R ∨ iList K tl σ H R
theorem pi_sq (hl : PE X l tl) : PI X tg l (iSq X.K tl) := pi_or (pi_tup hl) (pi_list hl)
theorem ix_sq : IxR X (fun x y H Q => rIxT X.K x y H Q ∨ rIxL X.K x y H Q) := IxR.or ix_tup ix_list
end
theorem at_sq {K : PySem.W.Frag} {H : Hp} {p : Addr} {xs : List V} {i : Int} {v : V} {Q : VK} (h : Sq K H p xs) (e : atI xs i = some v) (q : Q v H) : rIxT K (.ref p) (.int i) H Q ∨ rIxL K (.ref p) (.int i) H Q :=
  h.elim (fun h => .inl ⟨p, xs, i, v, rfl, rfl, h, e, q⟩) (fun h => .inr ⟨p, xs, i, v, rfl, rfl, h, e, q⟩)
theorem sq_keep {K : PySem.W.Frag} {P : Addr} {H H' : Hp} {a : Addr} {xs : List V} (t : GxR.TabG H P) (s : Sm P H H') : (SqT K H a xs → SqT K H' a xs) ∧ (SqL K H a xs → SqL K H' a xs) := ⟨s.tup t, s.lst t⟩
/-- for x in a list or a tuple: the whole reading of the loop -/
theorem for_sq {K : PySem.W.Frag} {a : Addr} {xs : List V} {g : TG} {tb : TS} {D : Ends} {σ : L2.St} {H : Hp} {tl : TE} (h : Sq K H a xs) (ht : ∀ Q, Q (.ref a) H → tl σ H Q) (Pv : Nat → L2.St → Hp → Prop) (h0 : Pv 0 σ H)
    (hk : ∀ i σ' H', Pv i σ' H' → (SqT K H a xs → SqT K H' a xs) ∧ (SqL K H a xs → SqL K H' a xs))
    (hs : ∀ i x σ H, xs[i]? = some x → Pv i σ H → g x σ H fun σ2 H2 => tb { D with nx := Pv (i + 1), ct := Pv (i + 1), bk := D.nx } σ2 H2) (hd : ∀ σ H, Pv xs.length σ H → D.nx σ H) :
    tFor (iSq K tl) g tb D σ H := by
  rcases h with h | h
  · exact .inl (ht _ ⟨a, rfl, ⟨xs, h⟩, for_tup Pv h0 (fun i σ' H' _ p => (hk i σ' H' p).1 h) hs hd⟩)
  · exact .inr (ht _ ⟨a, rfl, ⟨xs, h⟩, for_list Pv h0 (fun i σ' H' _ p => (hk i σ' H' p).2 h) hs hd⟩)
/-- the same of a comprehension -/
theorem lc_sq {K : PySem.W.Frag} {a : Addr} {xs : List V} {g : TG} {tt : TT} {te : TE} {vs : List Nat} {σ : L2.St} {H1 : Hp} {Q : VK} {tl : TE} (h : Sq K H1 a xs) (ht : ∀ Q, Q (.ref a) H1 → tl σ H1 Q) (Pv : Addr → Nat → Hp → Prop) (h0 : ∀ D, H1 D = none → Pv D 0 (upd H1 D (.lst [])))
    (hk : ∀ D, H1 D = none → ∀ i H', Pv D i H' → (SqT K H1 a xs → SqT K H' a xs) ∧ (SqL K H1 a xs → SqL K H' a xs))
    (hs : ∀ D, H1 D = none → ∀ i x H, xs[i]? = some x → Pv D i H → g x (wipe σ vs) H fun σ2 H2 => wipe σ2 vs = wipe σ vs ∧ tt σ2 H2 fun b H3 =>
      if b = true then te σ2 H3 fun y H4 => ∃ acc, H4 D = some (.lst acc) ∧ acc.length < sizeLine ∧ Pv D (i + 1) (upd H4 D (.lst (acc ++ [y]))) else Pv D (i + 1) H3) (hd : ∀ D, H1 D = none → ∀ H, Pv D xs.length H → Q (.ref D) H) :
    tLc (iSq K tl) g tt te vs σ H1 Q := by
  rcases h with h | h
  · exact .inl (ht _ ⟨a, rfl, ⟨xs, h⟩, fun D hD => lc_tup (Pv D) (h0 D hD) (fun i H' _ p => (hk D hD i H' p).1 h) (hs D hD) (hd D hD)⟩)
  · exact .inr (ht _ ⟨a, rfl, ⟨xs, h⟩, fun D hD => lc_list (Pv D) (h0 D hD) (fun i H' _ p => (hk D hD i H' p).2 h) (hs D hD) (hd D hD)⟩)
/-! ### data -/
def tnD : PyData → String
  | .none => "NoneType"
  | .bool _ => "bool"
  | .int _ => "int"
  | .str _ => "str"
  | .list _ => "list"
  | .tuple _ => "tuple"
  | .dict _ => "dict"
def isSq : PyData → Bool
  | .list _ => true
  | .tuple _ => true
  | _ => false
def itD : PyData → List PyData
  | .list xs => xs
  | .tuple xs => xs
  | _ => []
def isStr : PyData → Bool
  | .str _ => true
  | _ => false
mutual
/-- no text, no row is longer than this -/
def fitD : PyData → Bool
  | .str z => decide (z.length ≤ 100000)
  | .list xs => decide (xs.length ≤ 100000) && fitA xs
  | .tuple xs => decide (xs.length ≤ 100000) && fitA xs
  | .dict _ => false
  | _ => true
def fitA : List PyData → Bool
  | [] => true
  | x :: xs => fitD x && fitA xs
end
/-- data as it is handed to the program -/
structure OkD (D : PyData) : Prop where
  fit : fitD D = true
  lay : D.canLay0 = true
  dep : D.depth ≤ 50
theorem OkD.sh {D : PyData} (h : OkD D) : SeqAt.shaped D = true := by
  unfold SeqAt.shaped
  rw [h.lay, decide_eq_true (Nat.le_trans h.dep (by decide))]
  rfl
theorem fit_mem : ∀ {xs : List PyData}, fitA xs = true → ∀ x ∈ xs, fitD x = true
  | y :: ys, h, x, hx => by
    unfold fitA at h
    rw [Bool.and_eq_true] at h
    rcases List.mem_cons.mp hx with rfl | hx
    · exact h.1
    · exact fit_mem h.2 x hx
theorem lay_mem : ∀ {xs : List PyData}, PyData.canLayAll0 xs = true → ∀ x ∈ xs, x.canLay0 = true
  | y :: ys, h, x, hx => by
    unfold PyData.canLayAll0 at h
    rw [Bool.and_eq_true] at h
    rcases List.mem_cons.mp hx with rfl | hx
    · exact h.1
    · exact lay_mem h.2 x hx
theorem dep_mem : ∀ {xs : List PyData}, ∀ x ∈ xs, x.depth ≤ PyData.depthAll xs
  | y :: ys, x, hx => by
    simp only [PyData.depthAll]
    rcases List.mem_cons.mp hx with rfl | hx
    · exact Nat.le_max_left _ _
    · exact Nat.le_trans (dep_mem x hx) (Nat.le_max_right _ _)
theorem okD_it {D : PyData} (h : OkD D) : ∀ d ∈ itD D, OkD d := by
  intro d hd
  cases D with
  | list xs =>
    have h1 := h.fit
    have h2 := h.lay
    have h3 := h.dep
    simp only [fitD, Bool.and_eq_true] at h1
    simp only [PyData.canLay0] at h2
    simp only [PyData.depth] at h3
    exact ⟨fit_mem h1.2 d hd, lay_mem h2 d hd, by have := dep_mem (xs := xs) d hd; omega⟩
  | tuple xs =>
    have h1 := h.fit
    have h2 := h.lay
    have h3 := h.dep
    simp only [fitD, Bool.and_eq_true] at h1
    simp only [PyData.canLay0] at h2
    simp only [PyData.depth] at h3
    exact ⟨fit_mem h1.2 d hd, lay_mem h2 d hd, by have := dep_mem (xs := xs) d hd; omega⟩
  | none => exact nomatch hd
  | bool b => exact nomatch hd
  | int b => exact nomatch hd
  | str b => exact nomatch hd
  | dict b => exact nomatch hd
theorem okD_len {D : PyData} (h : OkD D) : (itD D).length ≤ 100000 := by
  have h1 := h.fit
  cases D with
  | list xs =>
    simp only [fitD, Bool.and_eq_true, decide_eq_true_eq] at h1
    exact h1.1
  | tuple xs =>
    simp only [fitD, Bool.and_eq_true, decide_eq_true_eq] at h1
    exact h1.1
  | none => exact Nat.zero_le _
  | bool b => exact Nat.zero_le _
  | int b => exact Nat.zero_le _
  | str b => exact Nat.zero_le _
  | dict b => exact Nat.zero_le _
theorem okD_str {z : Str} (h : OkD (.str z)) : z.length ≤ 100000 := by
  have h1 := h.fit
  simp only [fitD, decide_eq_true_eq] at h1
  exact h1
theorem okD_flat {z : Str} (h : z.length ≤ 100000) (o : PyData.strOk z = true) : OkD (.str z) := ⟨by simp only [fitD, decide_eq_true_eq]; exact h, by simp only [PyData.canLay0]; exact o, Nat.zero_le _⟩
theorem sz100 {n : Nat} (h : n ≤ 100000) : n ≤ sizeLine := Nat.le_trans h (by decide)
def isS : PyData → Str → Bool
  | .str y, z => y == z
  | _, _ => false
theorem eqv_str (d : PyData) (z : Str) : PyData.eqv d (.str z) = isS d z := by
  cases d <;> rfl
theorem isS_iff {d : PyData} {z : Str} : isS d z = true ↔ d = .str z := by
  cases d with
  | str y => exact ⟨fun h => congrArg PyData.str (beq_iff_eq.mp h), fun h => beq_iff_eq.mpr (PyData.str.inj h)⟩
  | _ => exact ⟨fun h => (nomatch h), fun h => (nomatch h)⟩
section
variable {K : PySem.W.Frag} {H H' : Hp} {v : V} {D : PyData} {P : Addr}
theorem tyT {p : Addr} {xs : List V} (h : SqT K H p xs) : TyX K H (.ref p) (.type "tuple") := by
  rcases h with (h | ⟨o, h⟩) | ⟨o, its, n, h, c, _⟩
  · exact .base (.tup h)
  · exact .fTuple h
  · exact .kTuple h c
theorem tyLL {p : Addr} {xs : List V} (h : SqL K H p xs) : TyX K H (.ref p) (.type "list") := by
  rcases h with (h | ⟨o, h⟩) | ⟨o, its, n, h, c, _⟩
  · exact .base (.lst h)
  · exact .base (.frz h)
  · exact .kList h c
theorem tyD (h : Dp K H v D) : TyX K H v (.type (tnD D)) := by
  cases h with
  | non => exact .base .non
  | bl b => exact .base (.bl b)
  | int b => exact .base (.int b)
  | str b => exact .base (.str b)
  | lst h _ => exact tyLL h
  | tup h _ => exact tyT h
theorem dp_seq (h : Dp K H v D) (e : isSq D = true) : ∃ a xs, v = .ref a ∧ Sq K H a xs ∧ DpAll K H xs (itD D) := by
  cases h with
  | lst h g => exact ⟨_, _, rfl, .inr h, g⟩
  | tup h g => exact ⟨_, _, rfl, .inl h, g⟩
  | non => exact nomatch e
  | bl b => exact nomatch e
  | int b => exact nomatch e
  | str b => exact nomatch e
theorem kit_sq (h : Dp K H v D) : PySem.W.kitAny K (.type (tnD D)) [.type "list", .type "tuple"] = some (isSq D) := by
  have no : ∀ {t : String}, kitB t "list" = some false → kitB t "tuple" = some false → PySem.W.kitAny K (.type t) [.type "list", .type "tuple"] = some false := fun a b =>
    kitAny_cons (kit_ty a) (fun _ => kitAny_cons (kit_ty b) (fun _ => rfl) (fun q => nomatch q)) (fun q => nomatch q)
  cases h with
  | lst _ _ => exact kitAny_cons (b := true) (kit_ty (show kitB "list" "list" = some true by decide +kernel)) (fun q => nomatch q) (fun _ => rfl)
  | tup _ _ => exact kitAny_cons (b := false) (kit_ty (show kitB "tuple" "list" = some false by decide +kernel)) (fun _ => kitAny_cons (b := true) (kit_ty (show kitB "tuple" "tuple" = some true by decide +kernel)) (fun q => nomatch q) fun _ => rfl) (fun q => nomatch q)
  | non => exact no (t := "NoneType") (by decide +kernel) (by decide +kernel)
  | bl b => exact no (t := "bool") (by decide +kernel) (by decide +kernel)
  | int b => exact no (t := "int") (by decide +kernel) (by decide +kernel)
  | str b => exact no (t := "str") (by decide +kernel) (by decide +kernel)
theorem kit_str (h : Dp K H v D) : PySem.W.kitOne K (.type (tnD D)) (.type "str") = some (isStr D) := by
  cases h with
  | non => exact kit_ty (show kitB "NoneType" "str" = some false by decide +kernel)
  | bl _ => exact kit_ty (show kitB "bool" "str" = some false by decide +kernel)
  | int _ => exact kit_ty (show kitB "int" "str" = some false by decide +kernel)
  | str _ => exact kit_ty (show kitB "str" "str" = some true by decide +kernel)
  | lst _ _ => exact kit_ty (show kitB "list" "str" = some false by decide +kernel)
  | tup _ _ => exact kit_ty (show kitB "tuple" "str" = some false by decide +kernel)
def intB : PyData → Bool
  | .int _ => true
  | .bool _ => true
  | _ => false
def blB : PyData → Bool
  | .bool _ => true
  | _ => false
theorem kit_int (h : Dp K H v D) : PySem.W.kitOne K (.type (tnD D)) (.type "int") = some (intB D) := by
  cases h with
  | non => exact kit_ty (show kitB "NoneType" "int" = some false by decide +kernel)
  | bl _ => exact kit_ty (show kitB "bool" "int" = some true by decide +kernel)
  | int _ => exact kit_ty (show kitB "int" "int" = some true by decide +kernel)
  | str _ => exact kit_ty (show kitB "str" "int" = some false by decide +kernel)
  | lst _ _ => exact kit_ty (show kitB "list" "int" = some false by decide +kernel)
  | tup _ _ => exact kit_ty (show kitB "tuple" "int" = some false by decide +kernel)
theorem kit_bool (h : Dp K H v D) : PySem.W.kitOne K (.type (tnD D)) (.type "bool") = some (blB D) := by
  cases h with
  | non => exact kit_ty (show kitB "NoneType" "bool" = some false by decide +kernel)
  | bl _ => exact kit_ty (show kitB "bool" "bool" = some true by decide +kernel)
  | int _ => exact kit_ty (show kitB "int" "bool" = some false by decide +kernel)
  | str _ => exact kit_ty (show kitB "str" "bool" = some false by decide +kernel)
  | lst _ _ => exact kit_ty (show kitB "list" "bool" = some false by decide +kernel)
  | tup _ _ => exact kit_ty (show kitB "tuple" "bool" = some false by decide +kernel)
mutual
theorem Dp.mono (t : GxR.TabG H P) (s : Sm P H H') : ∀ {D : PyData} {v : V}, Dp K H v D → Dp K H' v D
  | .none, _, h => by cases h; exact .non
  | .bool _, _, h => by cases h; exact .bl _
  | .int _, _, h => by cases h; exact .int _
  | .str _, _, h => by cases h; exact .str _
  | .list ds, _, h => by
    cases h with
    | lst a b => exact .lst (s.lst t a) (DpAll.mono t s b)
  | .tuple ds, _, h => by
    cases h with
    | tup a b => exact .tup (s.tup t a) (DpAll.mono t s b)
  | .dict _, _, h => by cases h
theorem DpAll.mono (t : GxR.TabG H P) (s : Sm P H H') : ∀ {ds : List PyData} {xs : List V}, DpAll K H xs ds → DpAll K H' xs ds
  | [], _, h => by cases h; exact .nil
  | d :: ds, _, h => by
    cases h with
    | cons a b => exact .cons (Dp.mono t s a) (DpAll.mono t s b)
end
theorem dpa_len : ∀ {xs : List V} {ds : List PyData}, DpAll K H xs ds → xs.length = ds.length
  | _, _, .nil => rfl
  | _, _, .cons _ h => congrArg Nat.succ (dpa_len h)
theorem dpa_at : ∀ {xs : List V} {ds : List PyData} {i : Nat} {x : V}, DpAll K H xs ds → xs[i]? = some x → ∃ d, ds[i]? = some d ∧ Dp K H x d
  | _, _, _, _, .nil, e => nomatch e
  | _, _, 0, _, .cons h _, e => by
    cases e
    exact ⟨_, rfl, h⟩
  | _, _, i + 1, x, .cons _ h, e => by
    obtain ⟨d, h1, h2⟩ := dpa_at (i := i) h (by simpa using e)
    exact ⟨d, by simpa using h1, h2⟩
theorem dpa_at' : ∀ {xs : List V} {ds : List PyData} {i : Nat} {d : PyData}, DpAll K H xs ds → ds[i]? = some d → ∃ x, xs[i]? = some x ∧ Dp K H x d
  | _, _, _, _, .nil, e => nomatch e
  | _, _, 0, _, .cons h _, e => by
    cases e
    exact ⟨_, rfl, h⟩
  | _, _, i + 1, x, .cons _ h, e => by
    obtain ⟨d, h1, h2⟩ := dpa_at' (i := i) h (by simpa using e)
    exact ⟨d, by simpa using h1, h2⟩
theorem dpa_app : ∀ {xs ys : List V} {ds es : List PyData}, DpAll K H xs ds → DpAll K H ys es → DpAll K H (xs ++ ys) (ds ++ es)
  | _, _, _, _, .nil, h => h
  | _, _, _, _, .cons a b, h => .cons a (dpa_app b h)
end
end K6

set_option Elab.async false
set_option linter.all false
set_option maxRecDepth 100000
set_option maxHeartbeats 4000000
namespace K6
open PySem PySem.Spec PyProof.Rows L2 So
section
variable {Pg : Program} {w : World} {K : PySem.W.Frag} {mg : Str → Option Value} {base : Heap} {P : Addr}
/-! ### is_sequence, of any data -/
theorem scSeq : FnScope ["value"] ["value"] (defScope sSeq) := ⟨rfl, rfl, rfl, by decide +kernel, rfl, by decide +kernel, by decide +kernel⟩
def spSeq (K : PySem.W.Frag) (P : Addr) : Sp := Pu P fun vs H R => ∃ (v : V) (D : PyData), vs = [v] ∧ Dp K H v D ∧ R = fun u _ => u = .bl (isSq D)
theorem ok_seq {f : Addr} {fd : FuncData} (F : Fun K "is_sequence" "is_sequence" sSeq f fd) (T : Tx K mg) : FnOk Pg w K mg base CX0 1 f fd ["value"] (spSeq K P) := by
  refine F.ok scSeq (fun vs H Q E h => ?_) (fun cdv A outer s H vs Q E hr h => ?_)
  · obtain ⟨_, _, ⟨_, _, rfl, _⟩, _⟩ := h
    rfl
  · obtain ⟨t, _, ⟨v, D, rfl, hD, rfl⟩, k⟩ := h
    refine ⟨_, pss_one (ps_ret (pe_callB call_isiT (by rfl) T.isi (by decide +kernel) (pa_cons (pv 0) (pa_cons (pe_tup (pa_cons (pe_bltn (v := .ty "list") (by rfl) T.list (by decide +kernel) rfl) (pa_cons (pe_bltn (v := .ty "tuple") (by rfl) T.tuple (by decide +kernel) rfl) pa_nil))) pa_nil)))), ?_⟩
    refine ⟨_, rfl, (by show 2 ≤ sizeLine; decide), fun q hq => ?_⟩
    have s1 : Sm P H (upd H q (.tup [.ty "list", .ty "tuple"])) := Sm.new t hq
    exact ⟨_, q, _, _, _, _, rfl, upd_same, .cons (.ty _) (.cons (.ty _) .nil), tyD (Dp.mono t s1 hD), kit_sq hD, k _ _ s1 rfl⟩
/-! ### is_number, is_number_below -/
def numD : PyData → Bool
  | .int i => decide (i ≥ 0)
  | _ => false
theorem scNum : FnScope ["value"] ["value"] (defScope sNum) := ⟨rfl, rfl, rfl, by decide +kernel, rfl, by decide +kernel, by decide +kernel⟩
def spNum (K : PySem.W.Frag) (P : Addr) : Sp := Pu P fun vs H R => ∃ (v : V) (D : PyData), vs = [v] ∧ Dp K H v D ∧ R = fun u _ => u = .bl (numD D)
theorem ok_num {f : Addr} {fd : FuncData} (F : Fun K "is_number" "is_number" sNum f fd) (T : Tx K mg) : FnOk Pg w K mg base CX0 1 f fd ["value"] (spNum K P) := by
  refine F.ok scNum (fun vs H Q E h => ?_) (fun cdv A outer s H vs Q E hr h => ?_)
  · obtain ⟨_, _, ⟨_, _, rfl, _⟩, _⟩ := h
    rfl
  · obtain ⟨t, _, ⟨v, D, rfl, hD, rfl⟩, k⟩ := h
    refine ⟨_, pss_one (ps_ret (pe_and (pe_callB call_isi (by rfl) T.isi (by decide +kernel) (pa_cons (pv 0) (pa_cons (pe_bltn (v := .ty "int") (by rfl) T.int (by decide +kernel) rfl) pa_nil)))
      (pe_and (pe_not (pe_callB call_isi (by rfl) T.isi (by decide +kernel) (pa_cons (pv 0) (pa_cons (pe_bltn (v := .ty "bool") (by rfl) T.bool (by decide +kernel) rfl) pa_nil)))) (pe_one (pe_cmpR op_ge (pv 0) pe_int (nomark _)))))), ?_⟩
    refine ⟨_, rfl, _, _, _, _, _, rfl, .ty _, tyD hD, kit_int hD, _, rfl, ?_⟩
    cases hD with
    | int n =>
      refine iteT ⟨_, rfl, _, _, _, _, false, rfl, .ty _, .base (.int n), kit_ty (by decide +kernel), false, rfl, true, rfl, iteT ?_⟩
      exact ⟨_, rfl, _, _, rfl, rfl, k _ _ (Sm.refl t) rfl⟩
    | bl b =>
      refine iteT ⟨_, rfl, _, _, _, _, true, rfl, .ty _, .base (.bl b), kit_ty (by decide +kernel), true, rfl, false, rfl, iteF ?_⟩
      exact k _ _ (Sm.refl t) rfl
    | non => exact iteF (k _ _ (Sm.refl t) rfl)
    | str b => exact iteF (k _ _ (Sm.refl t) rfl)
    | lst _ _ => exact iteF (k _ _ (Sm.refl t) rfl)
    | tup _ _ => exact iteF (k _ _ (Sm.refl t) rfl)
def nubD (b : Int) : PyData → Bool
  | .int i => decide (i ≥ 0) && decide (i < b)
  | _ => false
theorem scNub : FnScope ["value", "bound"] ["value", "bound"] (defScope sNub) := ⟨rfl, rfl, rfl, by decide +kernel, rfl, by decide +kernel, by decide +kernel⟩
def spNub (K : PySem.W.Frag) (P : Addr) : Sp := Pu P fun vs H R => ∃ (v : V) (b : Int) (D : PyData), vs = [v, .int b] ∧ Dp K H v D ∧ R = fun u _ => u = .bl (nubD b D)
theorem ok_nub {f fN : Addr} {fd fdN : FuncData} (F : Fun K "is_number_below" "is_number_below" sNub f fd) (T : Tx K mg) (N : Df K mg "is_number" sNum ["value"] fN fdN) : FnOk Pg w K mg base CX0 2 f fd ["value", "bound"] (spNub K P) := by
  have GN : FnOk Pg w K mg base CX0 1 fN fdN ["value"] (spNum K P) := ok_num N.F T
  refine F.ok scNub (fun vs H Q E h => ?_) (fun cdv A outer s H vs Q E hr h => ?_)
  · obtain ⟨_, _, ⟨_, _, _, rfl, _⟩, _⟩ := h
    rfl
  · obtain ⟨t, _, ⟨v, b, D, rfl, hD, rfl⟩, k⟩ := h
    refine ⟨_, pss_one (ps_ret (pe_and (pe_call GN hr (by rfl) N.g N.F.kp N.b .nil pass0 (pa_cons (pv 0) pa_nil)) (pe_one (pe_cmpR op_lt (pv 0) (pv 1) (nomark _))))), ?_⟩
    refine ⟨_, rfl, t, _, ⟨v, D, rfl, hD, rfl⟩, fun u H1 s1 e => ⟨_, e, ?_⟩⟩
    cases hD with
    | int n =>
      refine ite2 (fun q => ?_) (fun q => ?_)
      · refine ⟨_, rfl, _, rfl, _, _, rfl, rfl, k _ _ s1 ?_⟩
        show V.bl (decide (n < b)) = V.bl (decide (n ≥ 0) && decide (n < b))
        rw [show decide (n ≥ 0) = true from q, Bool.true_and]
      · refine k _ _ s1 ?_
        show V.bl false = V.bl (decide (n ≥ 0) && decide (n < b))
        rw [Bool.eq_false_iff.mpr (show ¬ decide (n ≥ 0) = true from q), Bool.false_and]
    | bl b => exact iteF (k _ _ s1 rfl)
    | non => exact iteF (k _ _ s1 rfl)
    | str b => exact iteF (k _ _ s1 rfl)
    | lst _ _ => exact iteF (k _ _ s1 rfl)
    | tup _ _ => exact iteF (k _ _ s1 rfl)
/-! ### is_text, is_label -/
def txtD : PyData → Bool
  | .str z => decide ((z.length : Int) ≤ 65535)
  | _ => false
theorem scTxt : FnScope ["value"] ["value"] (defScope sTxt) := ⟨rfl, rfl, rfl, by decide +kernel, rfl, by decide +kernel, by decide +kernel⟩
def spTxt (K : PySem.W.Frag) (P : Addr) : Sp := Pu P fun vs H R => ∃ (v : V) (D : PyData), vs = [v] ∧ Dp K H v D ∧ OkD D ∧ R = fun u _ => u = .bl (txtD D)
theorem ok_txt {f : Addr} {fd : FuncData} (F : Fun K "is_text" "is_text" sTxt f fd) (T : Tx K mg) : FnOk Pg w K mg base CX0 1 f fd ["value"] (spTxt K P) := by
  obtain ⟨_, tm⟩ := T.tmost
  refine F.ok scTxt (fun vs H Q E h => ?_) (fun cdv A outer s H vs Q E hr h => ?_)
  · obtain ⟨_, _, ⟨_, _, rfl, _⟩, _⟩ := h
    rfl
  · obtain ⟨t, _, ⟨v, D, rfl, hD, ok, rfl⟩, k⟩ := h
    refine ⟨_, pss_one (ps_ret (pe_and (pe_callB call_isi (by rfl) T.isi (by decide +kernel) (pa_cons (pv 0) (pa_cons (pe_bltn (v := .ty "str") (by rfl) T.str (by decide +kernel) rfl) pa_nil)))
      (pe_one (pe_cmpR op_le (pe_callB call_len_str (by rfl) T.len (by decide +kernel) (pa_cons (pv 0) pa_nil)) (pe_glob (v := .int 65535) (by rfl) tm ⟨_, rfl⟩) (nomark _))))), ?_⟩
    refine ⟨_, rfl, _, _, _, _, _, rfl, .ty _, tyD hD, kit_str hD, _, rfl, ?_⟩
    cases hD with
    | str z => exact iteT ⟨_, rfl, z, rfl, sz100 (okD_str ok), _, _, rfl, rfl, k _ _ (Sm.refl t) rfl⟩
    | bl b => exact iteF (k _ _ (Sm.refl t) rfl)
    | non => exact iteF (k _ _ (Sm.refl t) rfl)
    | int b => exact iteF (k _ _ (Sm.refl t) rfl)
    | lst _ _ => exact iteF (k _ _ (Sm.refl t) rfl)
    | tup _ _ => exact iteF (k _ _ (Sm.refl t) rfl)
def isLab (z : Str) : Bool := decide ((1 : Int) ≤ (z.length : Int)) && decide ((z.length : Int) ≤ 12) && z.cps.toList.all fun c => decide (c ∈ lets.cps.toList)
def labD : PyData → Bool
  | .str z => isLab z
  | _ => false
theorem scLab : FnScope ["value"] ["value"] (defScope sLab) := ⟨rfl, rfl, rfl, by decide +kernel, rfl, by decide +kernel, by decide +kernel⟩
def spLab (K : PySem.W.Frag) (P : Addr) : Sp := Pu P fun vs H R => ∃ (v : V) (D : PyData), vs = [v] ∧ Dp K H v D ∧ OkD D ∧ R = fun u _ => u = .bl (labD D)
theorem ok_lab {f c : Addr} {fd : FuncData} (F : DfC K mg "is_label" sLab ["value"] f fd c) (T : Tx K mg) (TB : GxR.TabB base mg c P) : FnOk Pg w K mg base CX0 1 f fd ["value"] (spLab K P) := by
  obtain ⟨_, tm⟩ := T.lmost
  obtain ⟨_, tl⟩ := T.letters
  refine F.ok scLab (fun vs H Q E h => ?_) (fun A outer s H vs Q E hr h => ?_)
  · obtain ⟨_, _, ⟨_, _, rfl, _⟩, _⟩ := h
    rfl
  · obtain ⟨t, _, ⟨v, D, rfl, hD, ok, rfl⟩, k⟩ := h
    refine ⟨_, pss_cons (ps_if (PW.pt (pw_or (pt_not (pt_val (pe_callB call_isi (by rfl) T.isi (by decide +kernel) (pa_cons (pv 0) (pa_cons (pe_bltn (v := .ty "str") (by rfl) T.str (by decide +kernel) rfl) pa_nil)))))
        (pw_or1 (pt_not (pt_chain op_le op_le pe_int (pe_callB call_len_str (by rfl) T.len (by decide +kernel) (pa_cons (pv 0) pa_nil)) (pe_glob (v := .int 12) (by rfl) tm ⟨_, rfl⟩))))))
        (pss_one (ps_ret pe_bl)) pss_nil)
      (pss_one (ps_ret (SoGx.pe_allG (c := c) (P := P) (pb := fun c => decide (c ∈ lets.cps.toList)) hr (by rfl) T.all (by decide +kernel) TB rfl ⟨rfl, rfl, by decide +kernel, rfl, rfl, fun y hy e => False.elim (by revert hy e; revert y; decide +kernel)⟩ (pv 0) (SoGx.elt_in rfl rfl rfl tl) (fun _ => rfl)))), ?_⟩
    have key : ∀ b : Bool, b = labD D → ∀ H', Sm P H H' → Q (.bl b) H' := fun b e H' s1 => k _ _ s1 (congrArg V.bl e)
    refine ⟨_, rfl, _, _, _, _, _, rfl, .ty _, tyD hD, kit_str hD, _, rfl, ?_⟩
    cases hD with
    | bl b => exact iteT (key _ rfl H (Sm.refl t))
    | non => exact iteT (key _ rfl H (Sm.refl t))
    | int b => exact iteT (key _ rfl H (Sm.refl t))
    | lst _ _ => exact iteT (key _ rfl H (Sm.refl t))
    | tup _ _ => exact iteT (key _ rfl H (Sm.refl t))
    | str z =>
      refine iteF ?_
      refine ⟨_, rfl, z, rfl, sz100 (okD_str ok), _, _, rfl, rfl, _, rfl, ?_⟩
      refine ite2 (fun h1 => ?_) (fun h1 => ?_)
      · refine ⟨_, _, rfl, rfl, _, rfl, ?_⟩
        by_cases h2 : (z.length : Int) ≤ 12
        · rw [decide_eq_true h2]
          refine iteF ?_
          refine ⟨_, rfl, z, rfl, t, fun H2 hT => key _ ?_ H2 (Sm.of_tabbed hT)⟩
          show _ = isLab z
          unfold isLab
          rw [h1, decide_eq_true h2]
          rfl
        · rw [decide_eq_false h2]
          refine iteT (key _ ?_ H (Sm.refl t))
          show _ = isLab z
          unfold isLab
          rw [decide_eq_false h2, Bool.and_false, Bool.false_and]
      · refine ⟨false, rfl, iteT (key _ ?_ H (Sm.refl t))⟩
        show _ = isLab z
        unfold isLab
        rw [Bool.eq_false_iff.mpr h1, Bool.false_and, Bool.false_and]
theorem dint {a b : Int} : decide (V.int a = V.int b) = decide (a = b) := by
  by_cases e : a = b
  · rw [decide_eq_true e, decide_eq_true (congrArg V.int e)]
  · rw [decide_eq_false e, decide_eq_false (fun q => e (V.int.inj q))]
/-! ### _sign_fault, is_sign, of any data -/
def fauD (D : PyData) : Option Int :=
  match itD D with
  | [a] => if isS a "close" = true then none else some (-1)
  | [a, b] => if isS a "open" = true then (if labD b = true then none else some 1) else if isS a "text" = true then (if txtD b = true then none else some 1) else some (-1)
  | _ => some (-1)
def oiV : Option Int → V
  | none => .non
  | some i => .int i
theorem scFau : FnScope ["value"] ["value"] (defScope sFau) := ⟨rfl, rfl, rfl, by decide +kernel, rfl, by decide +kernel, by decide +kernel⟩
def spFau (K : PySem.W.Frag) (P : Addr) : Sp := Pu P fun vs H R => ∃ (v : V) (D : PyData), vs = [v] ∧ Dp K H v D ∧ OkD D ∧ R = fun u _ => u = oiV (fauD D)
theorem fau_no {D : PyData} (h : isSq D = false) : fauD D = some (-1) := by
  cases D with
  | list _ => exact nomatch h
  | tuple _ => exact nomatch h
  | _ => rfl
theorem ok_fau {f fS fL fT c : Addr} {fd fdS fdL fdT : FuncData} (F : Fun K "_sign_fault" "_sign_fault" sFau f fd) (T : Tx K mg) (TB : GxR.TabB base mg c P)
    (S : Df K mg "is_sequence" sSeq ["value"] fS fdS) (L : DfC K mg "is_label" sLab ["value"] fL fdL c) (X : Df K mg "is_text" sTxt ["value"] fT fdT) : FnOk Pg w K mg base CX0 2 f fd ["value"] (spFau K P) := by
  have GS : FnOk Pg w K mg base CX0 1 fS fdS ["value"] (spSeq K P) := ok_seq S.F T
  have GL : FnOk Pg w K mg base CX0 1 fL fdL ["value"] (spLab K P) := ok_lab L T TB
  have GX : FnOk Pg w K mg base CX0 1 fT fdT ["value"] (spTxt K P) := ok_txt X.F T
  refine F.ok scFau (fun vs H Q E h => ?_) (fun cdv A outer s H vs Q E hr h => ?_)
  · obtain ⟨_, _, ⟨_, _, rfl, _⟩, _⟩ := h
    rfl
  · obtain ⟨t, _, ⟨v, D, rfl, hD, ok, rfl⟩, k⟩ := h
    have hu := hr.units
    refine ⟨_, pss_cons (ps_if (PW.pt (pw_or (pt_not (pt_val (pe_call GS hr (by rfl) S.g S.F.kp S.b .nil pass0 (pa_cons (pv 0) pa_nil)))) (pw_or1 (pt_cmpR op_eq (pe_callB call_len_seq (by rfl) T.len (by decide +kernel) (pa_cons (pv 0) pa_nil)) pe_int (nomark _)))))
        (pss_one (ps_ret (pe_un un_neg pe_int))) pss_nil)
      (pss_cons (ps_if (PW.pt (pw_and (pt_cmpR (op_eqD hu) (pe_ix ix_sq (pv 0) pe_int (fun _ _ => rfl)) pe_str (nomark _)) (pw_and1 (pt_cmpR op_eq (pe_callB call_len_seq (by rfl) T.len (by decide +kernel) (pa_cons (pv 0) pa_nil)) pe_int (nomark _)))))
        (pss_one (ps_ret pe_non)) pss_nil)
      (pss_cons (ps_if (pt_cmpR op_ne (pe_callB call_len_seq (by rfl) T.len (by decide +kernel) (pa_cons (pv 0) pa_nil)) pe_int (nomark _)) (pss_one (ps_ret (pe_un un_neg pe_int))) pss_nil)
      (pss_cons (ps_if (pt_cmpR (op_eqD hu) (pe_ix ix_sq (pv 0) pe_int (fun _ _ => rfl)) pe_str (nomark _))
        (pss_one (ps_ret (pe_ifExp (pt_val (pe_call GL hr (by rfl) L.g L.kp L.b .nil pass0 (pa_cons (pe_ix ix_sq (pv 0) pe_int (fun _ _ => rfl)) pa_nil))) pe_non pe_int))) pss_nil)
      (pss_cons (ps_if (pt_cmpR (op_eqD hu) (pe_ix ix_sq (pv 0) pe_int (fun _ _ => rfl)) pe_str (nomark _))
        (pss_one (ps_ret (pe_ifExp (pt_val (pe_call GX hr (by rfl) X.g X.F.kp X.b .nil pass0 (pa_cons (pe_ix ix_sq (pv 0) pe_int (fun _ _ => rfl)) pa_nil))) pe_non pe_int))) pss_nil)
      (pss_one (ps_ret (pe_un un_neg pe_int))))))), ?_⟩
    refine ⟨_, rfl, t, _, ⟨v, D, rfl, hD, rfl⟩, fun u H1 s1 e => ⟨_, e, ?_⟩⟩
    cases hq : isSq D with
    | false => exact iteT ⟨_, rfl, k _ _ s1 (by rw [fau_no hq]; rfl)⟩
    | true =>
      obtain ⟨a, xs, rfl, hx, hi⟩ := dp_seq (Dp.mono t s1 hD) hq
      have oks := okD_it ok
      unfold fauD at k
      generalize hL : itD D = L at hi oks k
      refine iteF ⟨_, rfl, a, xs, rfl, len_sq hx, rfl, _, rfl, ?_⟩
      cases hi with
      | nil => exact iteT ⟨_, rfl, k _ _ s1 rfl⟩
      | @cons x0 r0 d0 e0 h0 hr0 =>
        have ok0 := oks d0 (List.mem_cons_self ..)
        rw [dint, decide_eq_false (by rw [List.length_cons]; omega)]
        refine iteF ⟨_, rfl, at_sq hx (atI_nat (j := 0) rfl) ⟨d0, .str "close", h0, .str _, ok0.sh, by decide +kernel, _, rfl, ?_⟩⟩
        rw [eqv_str]
        cases hr0 with
        | nil =>
          refine ite2 (fun q => ?_) (fun q => ?_)
          · exact ⟨_, rfl, a, _, rfl, len_sq hx, rfl, _, rfl, iteT (k _ _ s1 (by dsimp only; rw [if_pos q]; rfl))⟩
          · exact iteF ⟨_, rfl, a, _, rfl, len_sq hx, rfl, _, rfl, iteT ⟨_, rfl, k _ _ s1 (by dsimp only; rw [if_neg q]; rfl)⟩⟩
        | @cons x1 r1 d1 e1 h1 hr1 =>
          have ok1 := oks d1 (List.mem_cons_of_mem _ (List.mem_cons_self ..))
          -- what comes behind the first two tests
          suffices go : _ from ite2 (fun q => ⟨_, rfl, a, _, rfl, len_sq hx, rfl, _, rfl, by
            rw [dint, decide_eq_false (by simp only [List.length_cons]; omega)]
            exact iteF go⟩) (fun q => iteF go)
          cases hr1 with
          | @cons x2 r2 d2 e2 h2 hr2 =>
            refine ⟨_, rfl, a, _, rfl, len_sq hx, rfl, _, rfl, ?_⟩
            rw [dint, decide_eq_false (by simp only [List.length_cons]; omega)]
            exact iteT ⟨_, rfl, k _ _ s1 rfl⟩
          | nil =>
            refine ⟨_, rfl, a, _, rfl, len_sq hx, rfl, _, rfl, iteF ?_⟩
            refine ⟨_, rfl, at_sq hx (atI_nat (j := 0) rfl) ⟨d0, .str "open", h0, .str _, ok0.sh, by decide +kernel, _, rfl, ?_⟩⟩
            rw [eqv_str]
            dsimp only at k
            refine ite2 (fun q => ?_) (fun q => ?_)
            · rw [if_pos q] at k
              refine ⟨_, rfl, at_sq hx (atI_nat (j := 1) rfl) ⟨s1.2, _, ⟨x1, d1, rfl, h1, ok1, rfl⟩, fun u2 H2 s2 e2 => ⟨_, e2, ?_⟩⟩⟩
              refine ite2 (fun z => k _ _ (s1.trans s2) ?_) (fun z => k _ _ (s1.trans s2) ?_)
              · rw [if_pos z]
                rfl
              · rw [if_neg z]
                rfl
            · rw [if_neg q] at k
              refine ⟨_, rfl, at_sq hx (atI_nat (j := 0) rfl) ⟨d0, .str "text", h0, .str _, ok0.sh, by decide +kernel, _, rfl, ?_⟩⟩
              rw [eqv_str]
              refine ite2 (fun q => ?_) (fun q => ?_)
              · rw [if_pos q] at k
                refine ⟨_, rfl, at_sq hx (atI_nat (j := 1) rfl) ⟨s1.2, _, ⟨x1, d1, rfl, h1, ok1, rfl⟩, fun u2 H2 s2 e2 => ⟨_, e2, ?_⟩⟩⟩
                refine ite2 (fun z => k _ _ (s1.trans s2) ?_) (fun z => k _ _ (s1.trans s2) ?_)
                · rw [if_pos z]
                  rfl
                · rw [if_neg z]
                  rfl
              · rw [if_neg q] at k
                exact ⟨_, rfl, k _ _ s1 rfl⟩
/-! ### is_sign, _step_of -/
theorem scSgn : FnScope ["value"] ["value"] (defScope sSgn) := ⟨rfl, rfl, rfl, by decide +kernel, rfl, by decide +kernel, by decide +kernel⟩
def sgnD (D : PyData) : Bool := (fauD D).isNone
def spSgn (K : PySem.W.Frag) (P : Addr) : Sp := Pu P fun vs H R => ∃ (v : V) (D : PyData), vs = [v] ∧ Dp K H v D ∧ OkD D ∧ R = fun u _ => u = .bl (sgnD D)
theorem ok_sgn {f fF : Addr} {fd fdF : FuncData} (F : Fun K "is_sign" "is_sign" sSgn f fd) (D : Df K mg "_sign_fault" sFau ["value"] fF fdF) (G : FnOk Pg w K mg base CX0 2 fF fdF ["value"] (spFau K P)) : FnOk Pg w K mg base CX0 3 f fd ["value"] (spSgn K P) := by
  refine F.ok scSgn (fun vs H Q E h => ?_) (fun cdv A outer s H vs Q E hr h => ?_)
  · obtain ⟨_, _, ⟨_, _, rfl, _⟩, _⟩ := h
    rfl
  · obtain ⟨t, _, ⟨v, U, rfl, hD, ok, rfl⟩, k⟩ := h
    refine ⟨_, pss_one (ps_ret (pe_cmpR op_isN (pe_call G hr (by rfl) D.g D.F.kp D.b .nil pass0 (pa_cons (pv 0) pa_nil)) pe_non (nomark _))), ?_⟩
    refine ⟨_, rfl, t, _, ⟨v, U, rfl, hD, ok, rfl⟩, fun u H1 s1 e => ⟨rfl, k _ _ s1 ?_⟩⟩
    rw [e]
    unfold sgnD
    cases fauD U with
    | none => rfl
    | some i => rfl
/-- what a sign does to the level -/
def stpD (D : PyData) : Int := match itD D with
  | a :: _ => if isS a "open" = true then 1 else if isS a "close" = true then -1 else 0
  | [] => 0
theorem sgn_cons {D : PyData} (h : sgnD D = true) : isSq D = true ∧ ∃ a r, itD D = a :: r := by
  unfold sgnD fauD at h
  cases hq : isSq D with
  | false =>
    have e : itD D = [] := by
      cases D with
      | list _ => exact nomatch hq
      | tuple _ => exact nomatch hq
      | _ => rfl
    rw [e] at h
    exact nomatch h
  | true =>
    refine ⟨rfl, ?_⟩
    cases e : itD D with
    | nil =>
      rw [e] at h
      exact nomatch h
    | cons a r => exact ⟨a, r, rfl⟩
theorem scStp : FnScope ["sign"] ["sign"] (defScope sStp) := ⟨rfl, rfl, rfl, by decide +kernel, rfl, by decide +kernel, by decide +kernel⟩
def spStp (K : PySem.W.Frag) (P : Addr) : Sp := Pu P fun vs H R => ∃ (v : V) (D : PyData), vs = [v] ∧ Dp K H v D ∧ OkD D ∧ sgnD D = true ∧ R = fun u _ => u = .int (stpD D)
theorem ok_stp {f : Addr} {fd : FuncData} (F : Fun K "_step_of" "_step_of" sStp f fd) : FnOk Pg w K mg base CX0 1 f fd ["sign"] (spStp K P) := by
  refine F.ok scStp (fun vs H Q E h => ?_) (fun cdv A outer s H vs Q E hr h => ?_)
  · obtain ⟨_, _, ⟨_, _, rfl, _⟩, _⟩ := h
    rfl
  · obtain ⟨t, _, ⟨v, D, rfl, hD, ok, hs, rfl⟩, k⟩ := h
    have hu := hr.units
    refine ⟨_, pss_cons (ps_if (pt_cmpR (op_eqD hu) (pe_ix ix_sq (pv 0) pe_int (fun _ _ => rfl)) pe_str (nomark _)) (pss_one (ps_ret pe_int)) pss_nil)
      (pss_one (ps_ret (pe_ifExp (pt_cmpR (op_eqD hu) (pe_ix ix_sq (pv 0) pe_int (fun _ _ => rfl)) pe_str (nomark _)) (pe_un un_neg pe_int) pe_int))), ?_⟩
    obtain ⟨hq, a, r, e⟩ := sgn_cons hs
    obtain ⟨p, xs, rfl, hx, hi⟩ := dp_seq hD hq
    have oks := okD_it ok
    unfold stpD at k
    rw [e] at hi oks k
    cases hi with
    | @cons x0 r0 _ _ h0 hr0 =>
      have ok0 := oks a (List.mem_cons_self ..)
      dsimp only at k
      refine ⟨_, rfl, at_sq hx (atI_nat (j := 0) rfl) ⟨a, .str "open", h0, .str _, ok0.sh, by decide +kernel, _, rfl, ?_⟩⟩
      rw [eqv_str]
      refine ite2 (fun q => k _ _ (Sm.refl t) (by rw [if_pos q])) (fun q => ?_)
      rw [if_neg q] at k
      refine ⟨_, rfl, at_sq hx (atI_nat (j := 0) rfl) ⟨a, .str "close", h0, .str _, ok0.sh, by decide +kernel, _, rfl, ?_⟩⟩
      rw [eqv_str]
      exact ite2 (fun q => ⟨_, rfl, k _ _ (Sm.refl t) (by rw [if_pos q])⟩) (fun q => k _ _ (Sm.refl t) (by rw [if_neg q]))
end
end K6

set_option Elab.async false
set_option linter.all false
set_option maxRecDepth 100000
set_option maxHeartbeats 4000000
namespace K6
open PySem PySem.Spec PyProof.Rows L2 So
/-- for i, x in enumerate of a list or a tuple -/
def iEn (K : PySem.W.Frag) (ta : TA) : TI := fun σ H R => SoE.iEnumT K ta σ H R ∨ iEnum K ta σ H R
theorem pi_en {X : Cx} {e : Expr} {ta : TA} {p pos tpos : Pos} {elts : List Expr} {kk : Nat} (hg : Gl X "enumerate") (hm : X.mg "enumerate" = none) (ha : PA X [e] ta) (hs : starEach [e] X.env = [(false, eval e X.env)] := by rfl) :
    PI X (.Tuple elts kk tpos) (.Call (.Name "enumerate" p) [e] [] pos) (iEn X.K ta) := pi_or (SoE.pi_enumT hg hm ha hs) (pi_enum hg hm ha hs)
theorem for_en {K : PySem.W.Frag} {a : Addr} {xs : List V} {g : TG} {tb : TS} {D : Ends} {σ : L2.St} {H H0 : Hp} {ta : TA} (h : Sq K H0 a xs) (ht : ∀ Q, Q [.ref a] H → ta σ H Q) (Pv : Nat → L2.St → Hp → Prop) (h0 : Pv 0 σ H)
    (hk : ∀ i σ' H', Pv i σ' H' → (SqT K H0 a xs → SqT K H' a xs) ∧ (SqL K H0 a xs → SqL K H' a xs))
    (hs : ∀ i x T σ H, xs[i]? = some x → Pv i σ H → H T = none → g (.ref T) σ (upd H T (.tup [.int (i : Nat), x])) fun σ2 H2 => tb { D with nx := Pv (i + 1), ct := Pv (i + 1), bk := D.nx } σ2 H2) (hd : ∀ σ H, Pv xs.length σ H → D.nx σ H) : tFor (iEn K ta) g tb D σ H := by
  rcases h with h | h
  · refine .inl (ht _ ⟨a, xs, rfl, (hk 0 σ H h0).1 h, for_it SoE.walk_enumT Pv h0 (fun i σ' H' _ p => (hk i σ' H' p).1 h) ?_ hd⟩)
    rintro i y σ Ha Hb hi p ⟨T, x1, x, rfl, hT, rfl, e1, hx⟩
    cases e1
    exact hs i x T σ Ha hx p hT
  · refine .inr (ht _ ⟨a, xs, rfl, (hk 0 σ H h0).2 h, for_it walk_enum Pv h0 (fun i σ' H' _ p => (hk i σ' H' p).2 h) ?_ hd⟩)
    rintro i y σ Ha Hb hi p ⟨T, x1, x, rfl, hT, rfl, e1, hx⟩
    cases e1
    exact hs i x T σ Ha hx p hT
theorem take_snoc {α : Type} {l : List α} {i : Nat} {x : α} (h : l[i]? = some x) : l.take (i + 1) = l.take i ++ [x] := by
  rw [List.take_add_one, h]
  rfl
theorem drop_at {α : Type} {l : List α} {i : Nat} {x : α} (h : l[i]? = some x) : l.drop i = x :: l.drop (i + 1) := by
  obtain ⟨h1, h2⟩ := List.getElem?_eq_some_iff.mp h
  rw [List.drop_eq_getElem_cons h1, h2]
/-! ### a list that changes, hidden -/
theorem del_upd {H : Hp} {l : Addr} {o : HO} : del (upd H l o) l = del H l := by
  funext b
  unfold del
  by_cases e : b = l
  · rw [if_pos e, if_pos e]
  · rw [if_neg e, if_neg e, upd_ne e]
theorem del_tab {H : Hp} {P l : Addr} (t : GxR.TabG H P) (n : l ≠ P) : GxR.TabG (del H l) P := by
  obtain ⟨ps, e, r⟩ := t
  exact ⟨ps, by rw [del_ne (Ne.symm n)]; exact e, r⟩
theorem _root_.So.Sm.del {P l : Addr} {H H' : Hp} (s : Sm P H H') (h : H l = none) (n : l ≠ P) : Sm P H (L2.del H' l) := ⟨fun b o nb e => by
  rw [del_ne (ne_of_none e h)]
  exact s.1 b o nb e, del_tab s.2 n⟩
theorem _root_.So.Sm.dels {P l : Addr} {H H' : Hp} (s : Sm P H H') (n : l ≠ P) : Sm P (L2.del H l) (L2.del H' l) := ⟨fun b o nb e => by
  by_cases q : b = l
  · rw [q, del_same] at e
    cases e
  · rw [del_ne q] at e ⊢
    exact s.1 b o nb e, del_tab s.2 n⟩
theorem _root_.So.Sm.undel {P l : Addr} {H : Hp} (t : GxR.TabG H P) : Sm P (L2.del H l) H := ⟨fun b o nb e => by
  by_cases q : b = l
  · rw [q, del_same] at e
    cases e
  · rw [del_ne q] at e
    exact e, t⟩
theorem nPt {P p : Addr} {H : Hp} (t : GxR.TabG H P) (h : H p = none) : p ≠ P := fun z => by
  obtain ⟨ps, q, _⟩ := t
  rw [z, q] at h
  cases h
theorem ly_of {n : Nat} (h : n ≤ 100000) : n < sizeLine := Nat.lt_of_le_of_lt h (by decide)
/-! ### errors of one argument -/
/-- an error's own dict -/
def Xd (H : Hp) (d : Addr) (v : V) : Prop := H d = some (.xd [(("at" : Str), v)])
structure Er (K : PySem.W.Frag) (mg : Str → Option Value) (x q : Str) (st : Stmt) (C fI : Addr) (fdI : FuncData) : Prop where
  T : OexC K C
  na : PySem.W.findIn K (.ref C) "at" = some none
  ini : PySem.W.findIn K (.ref C) "__init__" = some (some (.ref fI))
  ty : PySem.W.typeIn K (.ref fI) = some (.type "function")
  F : Fun K "__init__" q (inClass st 0) fI fdI
  b : Binds K fdI ["self", "at"] []
  g : mg x = some (.ref C)
  te : PySem.W.exmOne K (.ref C) (.ref C) = some true
def spIni (K : PySem.W.Frag) (C : Addr) : Sp := fun vs H Q _ => ∃ (a : Addr) (v : V), vs = [.ref a, v] ∧ H a = some (exo a C none) ∧ ∀ dx, H dx = none → dx ≠ a → Q .non (upd (upd H dx (exd dx [("at", v)])) a (exo a C (some dx)))
/-- the heap behind a raise -/
theorem raised {P C : Addr} {H : Hp} {v : V} {a dx : Addr} (t : GxR.TabG H P) (ha : H a = none) (hd : H dx = none) (ne : dx ≠ a) :
    Sm P H (upd (del (upd (upd (upd H a (exo a C none)) dx (exd dx [(("at" : Str), v)])) a (exo a C (some dx))) a) dx (.xd [(("at" : Str), v)])) := by
  have key : ∀ b, b ≠ a → b ≠ dx → upd (del (upd (upd (upd H a (exo a C none)) dx (exd dx [(("at" : Str), v)])) a (exo a C (some dx))) a) dx (.xd [(("at" : Str), v)]) b = H b := fun b h1 h2 => by
    rw [upd_ne h2, del_ne h1, upd_ne h1, upd_ne h2, upd_ne h1]
  obtain ⟨ps, e, r⟩ := t
  refine ⟨fun b o _ hb => ?_, ps, ?_, r⟩
  · rw [key b (ne_of_none hb ha) (ne_of_none hb hd)]
    exact hb
  · rw [key P (ne_of_none e ha) (ne_of_none e hd)]
    exact e
/-- such an error is wished for -/
def Rs (P C : Addr) (H : Hp) (E : XK) (v : V) : Prop := ∀ d H', Sm P H H' → Xd H' d v → E (.ref C) (some d) H'
theorem Rs.later {P C : Addr} {H H1 : Hp} {E : XK} {v : V} (s : Sm P H H1) (r : Rs P C H E v) : Rs P C H1 E v := fun d H' q x => r d H' (s.trans q) x
/-- what a raise's reading asks -/
theorem mk_err {K : PySem.W.Frag} {P C : Addr} {H : Hp} {E : XK} {v : V} (t : GxR.TabG H P) (r : Rs P C H E v) : [v].length ≤ 1000 ∧ ∀ a, H a = none → spIni K C (.ref a :: ([v] ++ [])) (upd H a (exo a C none))
    (fun u H2 => u = .non ∧ ∃ (d : Addr) (fs : List (Str × V)), H2 a = some (exo a C (some d)) ∧ H2 d = some (exd d fs) ∧ H d = none ∧ E (.ref C) (some d) (upd (del H2 a) d (.xd fs))) (fun _ _ _ => False) := by
  refine ⟨by show 1 ≤ 1000; decide, fun a ha => ⟨a, v, rfl, upd_same, fun dx n1 n2 => ⟨rfl, dx, [(("at" : Str), v)], upd_same, ?_, ?_, ?_⟩⟩⟩
  · rw [upd_ne n2, upd_same]
  · rwa [upd_ne n2] at n1
  · rw [upd_ne n2] at n1
    exact r dx _ (raised t ha n1 n2) upd_same
section
variable {Pg : Program} {w : World} {K : PySem.W.Frag} {mg : Str → Option Value} {base : Heap} {P : Addr}
theorem scIniS : FnScope ["self", "at"] ["self", "at"] (defScope (inClass cBadStream 0)) := ⟨rfl, rfl, rfl, by decide +kernel, rfl, by decide +kernel, by decide +kernel⟩
theorem scIniR : FnScope ["self", "at"] ["self", "at"] (defScope (inClass cRefused 0)) := ⟨rfl, rfl, rfl, by decide +kernel, rfl, by decide +kernel, by decide +kernel⟩
abbrev ErS (K : PySem.W.Frag) (mg : Str → Option Value) (C fI : Addr) (fdI : FuncData) : Prop := Er K mg "BadStream" "BadStream.__init__" cBadStream C fI fdI
abbrev ErR (K : PySem.W.Frag) (mg : Str → Option Value) (C fI : Addr) (fdI : FuncData) : Prop := Er K mg "Refused" "Refused.__init__" cRefused C fI fdI
theorem ok_iniS {C fI : Addr} {fdI : FuncData} (B : ErS K mg C fI fdI) : FnOk Pg w K mg base CX0 1 fI fdI ["self", "at"] (spIni K C) := by
  refine B.F.ok scIniS (fun vs H Q E h => ?_) (fun cdv A outer s H vs Q E hr h => ?_)
  · obtain ⟨a, v, rfl, _⟩ := h
    rfl
  · obtain ⟨a, v, rfl, ha, k⟩ := h
    exact ⟨_, pss_one (ps_ost (pv 0) (pv 1)), _, rfl, _, rfl, a, C, rfl, B.T, B.na, .inl ⟨ha, fun dx n ne => k dx n ne⟩⟩
theorem ok_iniR {C fI : Addr} {fdI : FuncData} (B : ErR K mg C fI fdI) : FnOk Pg w K mg base CX0 1 fI fdI ["self", "at"] (spIni K C) := by
  refine B.F.ok scIniR (fun vs H Q E h => ?_) (fun cdv A outer s H vs Q E hr h => ?_)
  · obtain ⟨a, v, rfl, _⟩ := h
    rfl
  · obtain ⟨a, v, rfl, ha, k⟩ := h
    exact ⟨_, pss_one (ps_ost (pv 0) (pv 1)), _, rfl, _, rfl, a, C, rfl, B.T, B.na, .inl ⟨ha, fun dx n ne => k dx n ne⟩⟩
/-! ### read_levels, of any data -/
def levD : List PyData → Nat → Int → Sum Int Int
  | [], _, l => .inr l
  | d :: r, i, l => if sgnD d = false then .inl (i : Nat) else if l + stpD d < 0 then .inl (i : Nat) else levD r (i + 1) (l + stpD d)
theorem lev_cons {d : PyData} {r : List PyData} {i : Nat} {l : Int} : levD (d :: r) i l = if sgnD d = false then .inl (i : Nat) else if l + stpD d < 0 then .inl (i : Nat) else levD r (i + 1) (l + stpD d) := rfl
/-- the first item that is wrong (-1: no sequence), or the level behind all -/
def rdD (D : PyData) (n : Int) : Sum Int Int := if isSq D = true then levD (itD D) 0 n else .inl (-1)
def tupD : PyData → PyData
  | .list xs => .tuple xs
  | d => d
/-- signs as tuples -/
def tupsD (D : PyData) : PyData := .tuple ((itD D).map tupD)
theorem tup_app {ds : List PyData} {i : Nat} {d : PyData} (h : ds[i]? = some d) : (ds.take (i + 1)).map tupD = (ds.take i).map tupD ++ [tupD d] := by
  rw [take_snoc h, List.map_append]
  rfl
theorem scRdl : FnScope ["value", "ahead", "signs", "level", "at", "sign"] ["value", "ahead"] (defScope sRdl) := ⟨rfl, rfl, rfl, by decide +kernel, rfl, by decide +kernel, by decide +kernel⟩
def spRdl (K : PySem.W.Frag) (P C : Addr) : Sp := fun vs H Q E => GxR.TabG H P ∧ ∃ (v : V) (D : PyData) (n : Int), vs = [v, .int n] ∧ Dp K H v D ∧ OkD D ∧
  (match rdD D n with
   | .inl i => Rs P C H E (.int i)
   | .inr l => ∀ r q H', Sm P H H' → H' r = some (.tup [.ref q, .int l]) → Dp K H' (.ref q) (tupsD D) → Q (.ref r) H')
theorem ok_rdl {f fS fG fT C fI : Addr} {fd fdS fdG fdT fdI : FuncData} (F : Fun K "read_levels" "read_levels" sRdl f fd) (T : Tx K mg) (B : ErS K mg C fI fdI)
    (S : Df K mg "is_sequence" sSeq ["value"] fS fdS) (G : Df K mg "is_sign" sSgn ["value"] fG fdG) (GG : FnOk Pg w K mg base CX0 3 fG fdG ["value"] (spSgn K P)) (D : Df K mg "_step_of" sStp ["sign"] fT fdT) :
    FnOk Pg w K mg base (L2.CX Pg w) 4 f fd ["value", "ahead"] (spRdl K P C) := by
  have GS : FnOk Pg w K mg base CX0 1 fS fdS ["value"] (spSeq K P) := ok_seq S.F T
  have GD : FnOk Pg w K mg base CX0 1 fT fdT ["sign"] (spStp K P) := ok_stp D.F
  have GI : FnOk Pg w K mg base CX0 1 fI fdI ["self", "at"] (spIni K C) := ok_iniS B
  refine F.okX scRdl (fun vs H Q E h => ?_) (fun cdv A outer s H vs Q E hr h => ?_)
  · obtain ⟨_, _, _, _, rfl, _⟩ := h
    rfl
  · obtain ⟨t, v, U, n, rfl, hD, ok, k⟩ := h
    have hr1 : Room 1 _ := hr.mono (by decide)
    have hr2 : Room 2 _ := hr.mono (by decide)
    refine ⟨_, pss_cons (ps_if (pt_not (pt_val (pe_call GS hr1 (by rfl) S.g S.F.kp S.b .nil pass0 (pa_cons (pv 0) pa_nil))))
        (pss_one (ps_raise rfl (takes_of rfl rfl rfl rfl) (pmk_oex B.T B.ini B.ty GI hr2 B.b .nil pass0 (by rfl) B.g (pa_cons (pe_un un_neg pe_int) pa_nil)))) pss_nil)
      (pss_cons (ps_set (i := 2) scRdl.nd rfl (Or.inl rfl) (pe_lst pa_nil))
      (pss_cons (ps_set (i := 3) scRdl.nd rfl (Or.inl rfl) (pv 1))
      (pss_cons (ps_for (passes_of rfl) rfl (pi_en (by rfl) T.enumerate (pa_cons (pv 0) pa_nil)) (pg_tup rfl (pgs_cons (pg_name (i := 4) scRdl.nd rfl (.inl rfl)) (pgs_cons (pg_name (i := 5) scRdl.nd rfl (.inl rfl)) pgs_nil)))
        (pss_cons (ps_if (pt_not (pt_val (pe_call GG hr (by rfl) G.g G.F.kp G.b .nil pass0 (pa_cons (pv 5) pa_nil))))
          (pss_one (ps_raise rfl (takes_of rfl rfl rfl rfl) (pmk_oex B.T B.ini B.ty GI hr2 B.b .nil pass0 (by rfl) B.g (pa_cons (pv 4) pa_nil)))) pss_nil)
        (pss_cons (ps_aug (i := 3) scRdl.nd rfl (.inl rfl) (pe_call GD hr1 (by rfl) D.g D.F.kp D.b .nil pass0 (pa_cons (pv 5) pa_nil)) ip_add)
        (pss_cons (ps_if (pt_cmpR op_lt (pv 3) pe_int (nomark _)) (pss_one (ps_raise rfl (takes_of rfl rfl rfl rfl) (pmk_oex B.T B.ini B.ty GI hr2 B.b .nil pass0 (by rfl) B.g (pa_cons (pv 4) pa_nil)))) pss_nil)
        (pss_one (ps_expr (pe_bm PySem.F.plainAttrs_list PySem.F.slot_list_append PySem.F.type_list_append mt_append (pv 2) (pa_cons (pe_tupleOf (by rfl) T.tuple (pv 5)) pa_nil))))))))
      (pss_one (ps_ret (pe_tup (pa_cons (pe_tupleOf (by rfl) T.tuple (pv 2)) (pa_cons (pv 3) pa_nil)))))))), ?_⟩
    refine ⟨_, rfl, t, _, ⟨v, U, rfl, hD, rfl⟩, fun u H1 s1 e => ⟨_, e, ?_⟩⟩
    unfold rdD at k
    cases hq : isSq U with
    | false =>
      rw [hq, if_neg Bool.false_ne_true] at k
      exact iteT ⟨1, rfl, mk_err s1.2 (Rs.later s1 k)⟩
    | true =>
      rw [hq, if_pos rfl] at k
      refine iteF ?_
      obtain ⟨p, xs, rfl, hx0, hi0⟩ := dp_seq hD hq
      have oks := okD_it ok
      have len := okD_len ok
      have lx := dpa_len hi0
      refine ⟨Nat.zero_le _, fun l hl => ?_⟩
      have l0 : H l = none := s1.free t hl
      have lP : l ≠ P := fun z => by
        obtain ⟨ps, q, _⟩ := s1.2
        rw [z, q] at hl
        cases hl
      have s2 : Sm P H (upd H1 l (.lst [])) := s1.mut l0 lP
      refine ⟨_, rfl, ?_⟩
      have lP : l ≠ P := nPt s1.2 hl
      refine for_en (xs := xs) hx0 (fun Q q => ⟨_, rfl, q⟩) (fun i σ H' => ∃ (lv : Int) (v4 v5 : Option V) (ys : List V), σ = [some (.ref p), some (.int n), some (.ref l), some (.int lv), v4, v5] ∧
        Sm P H H' ∧ H' l = some (.lst ys) ∧ DpAll K (del H' l) ys (((itD U).take i).map tupD) ∧ levD (itD U) 0 n = levD ((itD U).drop i) i lv) ⟨n, none, none, [], rfl, s2, upd_same, .nil, rfl⟩ (fun i σ H' ⟨_, _, _, _, _, s3, _⟩ => sq_keep t s3) ?_ ?_
      · rintro i x T1 σ Ha hxi ⟨lv, v4, v5, ys, rfl, s3, hl3, hys, hlev⟩ hT
        obtain ⟨d, hdi, hd⟩ := dpa_at hi0 hxi
        have okd := oks d (List.mem_of_getElem? hdi)
        have s4 : Sm P H (upd Ha T1 (.tup [.int (i : Nat), x])) := s3.trans (Sm.new s3.2 hT)
        refine ⟨T1, _, rfl, .inl (.inl upd_same), rfl, _, _, rfl, _, _, rfl, rfl, ?_⟩
        refine ⟨_, rfl, s4.2, _, ⟨x, d, rfl, Dp.mono t s4 hd, okd, rfl⟩, fun u5 H5 s5 e5 => ⟨_, e5, ?_⟩⟩
        have s6 : Sm P H H5 := s4.trans s5
        rw [drop_at hdi, lev_cons] at hlev
        cases hg : sgnD d with
        | false =>
          rw [hg, if_pos rfl] at hlev
          rw [hlev] at k
          exact iteT ⟨_, rfl, mk_err s6.2 (Rs.later s6 k)⟩
        | true =>
          rw [hg, if_neg (fun q => (nomatch q))] at hlev
          refine iteF ⟨_, rfl, _, rfl, s6.2, _, ⟨x, d, rfl, Dp.mono t s6 hd, okd, hg, rfl⟩, fun u7 H7 s7 e7 => ?_⟩
          subst e7
          have s8 : Sm P H H7 := s6.trans s7
          refine ⟨_, _, rfl, rfl, ?_⟩
          refine ⟨_, rfl, _, _, rfl, rfl, _, rfl, ?_⟩
          by_cases neg : lv + stpD d < 0
          · rw [decide_eq_true neg]
            rw [if_pos neg] at hlev
            rw [hlev] at k
            exact iteT ⟨_, rfl, mk_err s8.2 (Rs.later s8 k)⟩
          · rw [decide_eq_false neg]
            rw [if_neg neg] at hlev
            have s37 : Sm P Ha H7 := (Sm.new s3.2 hT).trans (s5.trans s7)
            have hl7 : H7 l = some (.lst ys) := s37.atL s3.2 hl3
            have hys7 := DpAll.mono (del_tab s3.2 lP) (s37.dels lP) hys
            have ly : ys.length < sizeLine := ly_of (by
              rw [dpa_len hys, List.length_map, List.length_take]
              exact Nat.le_trans (Nat.min_le_right _ _) len)
            refine iteF ⟨_, rfl, .inl ⟨rfl, _, SqL.of hl7⟩, _, rfl, ?_⟩
            -- the sign as a tuple is put behind the others
            have put : ∀ (z : V) (H8 : Hp), Sm P H7 H8 → Dp K (del H8 l) z (tupD d) → Sm P H (upd H8 l (.lst (ys ++ [z]))) ∧ H8 l = some (.lst ys) ∧ DpAll K (del (upd H8 l (.lst (ys ++ [z]))) l) (ys ++ [z]) (((itD U).take (i + 1)).map tupD) := by
              intro z H8 s9 hz
              refine ⟨(s8.trans s9).mut l0 lP, s9.atL s8.2 hl7, ?_⟩
              rw [del_upd, tup_app hdi]
              exact dpa_app (DpAll.mono (del_tab s8.2 lP) (s9.dels lP) hys7) (.cons hz .nil)
            have hd8 := Dp.mono t (s8.del l0 lP) hd
            obtain ⟨hs, _⟩ := sgn_cons hg
            cases d with
            | list ds =>
              cases hd with
              | @lst b zs _ c1 c2 =>
                refine .inl ⟨b, _, rfl, s8.lst t c1, fun q hq => ?_⟩
                have nq : q ≠ l := fun z => by
                  rw [z, hl7] at hq
                  cases hq
                obtain ⟨p1, p2, p3⟩ := put (.ref q) _ (Sm.new s8.2 hq) (.tup (.inl (.inl (by rw [del_ne nq, upd_same]))) (DpAll.mono t ((s8.trans (Sm.new s8.2 hq)).del l0 lP) c2))
                exact ⟨l, _, _, rfl, rfl, p2, ly, _, _, _, _, rfl, p1, upd_same, p3, hlev⟩
            | tuple ds =>
              cases hd with
              | @tup b zs _ c1 c2 =>
                obtain ⟨p1, p2, p3⟩ := put (.ref b) _ (Sm.refl s8.2) hd8
                exact .inr ⟨b, _, rfl, s8.tup t c1, l, _, _, rfl, rfl, p2, ly, _, _, _, _, rfl, p1, upd_same, p3, hlev⟩
            | none => exact nomatch hs
            | bool _ => exact nomatch hs
            | int _ => exact nomatch hs
            | str _ => exact nomatch hs
            | dict _ => exact nomatch hs
      · rintro σ Ha ⟨lv, v4, v5, ys, rfl, s3, hl3, hys, hlev⟩
        rw [lx, List.drop_length] at hlev
        rw [hlev] at k
        rw [lx, List.take_length] at hys
        refine ⟨_, rfl, .inl ⟨l, _, rfl, SqL.of hl3, fun q hq => ?_⟩⟩
        refine ⟨_, rfl, (by show 2 ≤ sizeLine; decide), fun r hr => ?_⟩
        have q5 : Sm P H (upd Ha q (.tup ys)) := s3.trans (Sm.new s3.2 hq)
        refine k r q _ (q5.trans (Sm.new q5.2 hr)) upd_same ?_
        refine .tup (.inl (.inl ?_)) (DpAll.mono q5.2 (Sm.new q5.2 hr) (DpAll.mono s3.2 (Sm.new s3.2 hq) (DpAll.mono (del_tab s3.2 lP) (Sm.undel s3.2) hys)))
        rw [upd_ne (ne_of_none upd_same hr), upd_same]
end
end K6

set_option Elab.async false
set_option linter.all false
set_option maxRecDepth 100000
set_option maxHeartbeats 4000000
namespace K6
open PySem PySem.Spec PyProof.Rows L2 So
/-- the first place that is wrong of a whole row, so many levels being open ahead -/
def whD (D : PyData) (n : Int) : Option Int :=
  match rdD D n with
  | .inl i => some i
  | .inr l => if l > 0 then some ((itD D).length : Nat) else none
def wish {K : PySem.W.Frag} (P C : Addr) (H : Hp) (E : XK) (D : PyData) (Q : VK) (o : Option Int) : Prop :=
  match o with
  | some i => Rs P C H E (.int i)
  | none => ∀ v H', Sm P H H' → Dp K H' v (tupsD D) → Q v H'
theorem wish_later {K : PySem.W.Frag} {P C : Addr} {H H1 : Hp} {E : XK} {D : PyData} {Q : VK} {o : Option Int} (s : Sm P H H1) (h : wish (K := K) P C H E D Q o) : wish (K := K) P C H1 E D Q o := by
  cases o with
  | some i => exact Rs.later s h
  | none => exact fun v H' s2 d => h v H' (s.trans s2) d
theorem tups_len (D : PyData) : (itD (tupsD D)).length = (itD D).length := by
  show (List.map tupD (itD D)).length = _
  rw [List.length_map]
section
variable {Pg : Program} {w : World} {K : PySem.W.Frag} {mg : Str → Option Value} {base : Heap} {P : Addr}
/-! ### _read_whole, check_prefix, check_stream -/
theorem scRwh : FnScope ["value", "ahead", "signs", "level"] ["value", "ahead"] (defScope sRwh) := ⟨rfl, rfl, rfl, by decide +kernel, rfl, by decide +kernel, by decide +kernel⟩
def spRwh (K : PySem.W.Frag) (P C : Addr) : Sp := fun vs H Q E => GxR.TabG H P ∧ ∃ (v : V) (D : PyData) (n : Int), vs = [v, .int n] ∧ Dp K H v D ∧ OkD D ∧ wish (K := K) P C H E D Q (whD D n)
theorem ok_rwh {f fR C fI : Addr} {fd fdR fdI : FuncData} (F : Fun K "_read_whole" "_read_whole" sRwh f fd) (T : Tx K mg) (B : ErS K mg C fI fdI)
    (R : Df K mg "read_levels" sRdl ["value", "ahead"] fR fdR) (GR : FnOk Pg w K mg base (L2.CX Pg w) 4 fR fdR ["value", "ahead"] (spRdl K P C)) : FnOk Pg w K mg base (L2.CX Pg w) 5 f fd ["value", "ahead"] (spRwh K P C) := by
  have GI : FnOk Pg w K mg base CX0 1 fI fdI ["self", "at"] (spIni K C) := ok_iniS B
  refine F.okX scRwh (fun vs H Q E h => ?_) (fun cdv A outer s H vs Q E hr h => ?_)
  · obtain ⟨_, _, _, _, rfl, _⟩ := h
    rfl
  · obtain ⟨t, v, D, n, rfl, hD, ok, k⟩ := h
    have hr2 : Room 2 _ := hr.mono (by decide)
    refine ⟨_, pss_cons (ps_asg (pe_call GR hr (by rfl) R.g R.F.kp R.b .nil (passes_call (takes_of rfl rfl rfl rfl) fun _ _ _ _ h => h) (pa_cons (pv 0) (pa_cons (pv 1) pa_nil))) (pg_tup rfl (pgs_cons (pg_name (i := 2) scRwh.nd rfl (.inl rfl)) (pgs_cons (pg_name (i := 3) scRwh.nd rfl (.inl rfl)) pgs_nil))))
      (pss_cons (ps_if (pt_cmpR op_gt (pv 3) pe_int (nomark _)) (pss_one (ps_raise rfl (takes_of rfl rfl rfl rfl) (pmk_oex B.T B.ini B.ty GI hr2 B.b .nil pass0 (by rfl) B.g (pa_cons (pe_callB call_len_seq (by rfl) T.len (by decide +kernel) (pa_cons (pv 2) pa_nil)) pa_nil)))) pss_nil)
      (pss_one (ps_ret (pv 2)))), ?_⟩
    refine ⟨_, rfl, _, rfl, t, v, D, n, rfl, hD, ok, ?_⟩
    unfold whD at k
    cases hl : rdD D n with
    | inl i =>
      rw [hl] at k
      exact k
    | inr l =>
      rw [hl] at k
      dsimp only at k
      intro r q H1 s1 e1 e2
      refine ⟨r, _, rfl, .inl (.inl e1), rfl, _, _, rfl, _, _, rfl, rfl, ?_⟩
      refine ⟨_, rfl, _, _, rfl, rfl, _, rfl, ?_⟩
      refine ite2 (fun pos => ?_) (fun neg => ?_)
      · rw [if_pos (of_decide_eq_true pos)] at k
        cases e2 with
        | @tup _ xs _ c1 c2 =>
          have lx : xs.length = (itD D).length := by rw [dpa_len c2, List.length_map]
          refine ⟨_, rfl, q, xs, rfl, .inr c1, ?_⟩
          rw [lx]
          exact mk_err s1.2 (Rs.later s1 k)
      · rw [if_neg (fun z => neg (decide_eq_true z))] at k
        exact ⟨_, rfl, k _ H1 s1 e2⟩
theorem scCpf : FnScope ["value", "signs", "_"] ["value"] (defScope sCpf) := ⟨rfl, rfl, rfl, by decide +kernel, rfl, by decide +kernel, by decide +kernel⟩
def prD (D : PyData) : Option Int := match rdD D 0 with
  | .inl i => some i
  | .inr _ => none
def spCpf (K : PySem.W.Frag) (P C : Addr) : Sp := fun vs H Q E => GxR.TabG H P ∧ ∃ (v : V) (D : PyData), vs = [v] ∧ Dp K H v D ∧ OkD D ∧ wish (K := K) P C H E D Q (prD D)
theorem ok_cpf {f fR C : Addr} {fd fdR : FuncData} (F : Fun K "check_prefix" "check_prefix" sCpf f fd) (R : Df K mg "read_levels" sRdl ["value", "ahead"] fR fdR) (GR : FnOk Pg w K mg base (L2.CX Pg w) 4 fR fdR ["value", "ahead"] (spRdl K P C)) :
    FnOk Pg w K mg base (L2.CX Pg w) 5 f fd ["value"] (spCpf K P C) := by
  refine F.okX scCpf (fun vs H Q E h => ?_) (fun cdv A outer s H vs Q E hr h => ?_)
  · obtain ⟨_, _, _, rfl, _⟩ := h
    rfl
  · obtain ⟨t, v, D, rfl, hD, ok, k⟩ := h
    refine ⟨_, pss_cons (ps_asg (pe_call GR hr (by rfl) R.g R.F.kp R.b .nil (passes_call (takes_of rfl rfl rfl rfl) fun _ _ _ _ h => h) (pa_cons (pv 0) (pa_cons pe_int pa_nil))) (pg_tup rfl (pgs_cons (pg_name (i := 1) scCpf.nd rfl (.inl rfl)) (pgs_cons (pg_name (i := 2) scCpf.nd rfl (.inl rfl)) pgs_nil))))
      (pss_one (ps_ret (pv 1))), ?_⟩
    refine ⟨_, rfl, t, v, D, 0, rfl, hD, ok, ?_⟩
    unfold prD at k
    cases hl : rdD D 0 with
    | inl i =>
      rw [hl] at k
      exact k
    | inr l =>
      rw [hl] at k
      intro r q H1 s1 e1 e2
      exact ⟨r, _, rfl, .inl (.inl e1), rfl, _, _, rfl, _, _, rfl, rfl, _, rfl, k _ H1 s1 e2⟩
theorem scDep : FnScope ["prefix", "_", "level"] ["prefix"] (defScope sDep) := ⟨rfl, rfl, rfl, by decide +kernel, rfl, by decide +kernel, by decide +kernel⟩
def spDep (K : PySem.W.Frag) (P C : Addr) : Sp := fun vs H Q E => GxR.TabG H P ∧ ∃ (v : V) (D : PyData), vs = [v] ∧ Dp K H v D ∧ OkD D ∧
  (match rdD D 0 with
   | .inl i => Rs P C H E (.int i)
   | .inr l => ∀ H', Sm P H H' → Q (.int l) H')
theorem ok_dep {f fR C : Addr} {fd fdR : FuncData} (F : Fun K "depth" "depth" sDep f fd) (R : Df K mg "read_levels" sRdl ["value", "ahead"] fR fdR) (GR : FnOk Pg w K mg base (L2.CX Pg w) 4 fR fdR ["value", "ahead"] (spRdl K P C)) :
    FnOk Pg w K mg base (L2.CX Pg w) 5 f fd ["prefix"] (spDep K P C) := by
  refine F.okX scDep (fun vs H Q E h => ?_) (fun cdv A outer s H vs Q E hr h => ?_)
  · obtain ⟨_, _, _, rfl, _⟩ := h
    rfl
  · obtain ⟨t, v, D, rfl, hD, ok, k⟩ := h
    refine ⟨_, pss_cons (ps_asg (pe_call GR hr (by rfl) R.g R.F.kp R.b .nil (passes_call (takes_of rfl rfl rfl rfl) fun _ _ _ _ h => h) (pa_cons (pv 0) (pa_cons pe_int pa_nil))) (pg_tup rfl (pgs_cons (pg_name (i := 1) scDep.nd rfl (.inl rfl)) (pgs_cons (pg_name (i := 2) scDep.nd rfl (.inl rfl)) pgs_nil))))
      (pss_one (ps_ret (pv 2))), ?_⟩
    refine ⟨_, rfl, t, v, D, 0, rfl, hD, ok, ?_⟩
    cases hl : rdD D 0 with
    | inl i =>
      rw [hl] at k
      exact k
    | inr l =>
      rw [hl] at k
      intro r q H1 s1 e1 e2
      exact ⟨r, _, rfl, .inl (.inl e1), rfl, _, _, rfl, _, _, rfl, rfl, _, rfl, k H1 s1⟩
theorem scCst : FnScope ["value"] ["value"] (defScope sCst) := ⟨rfl, rfl, rfl, by decide +kernel, rfl, by decide +kernel, by decide +kernel⟩
def spCst (K : PySem.W.Frag) (P C : Addr) : Sp := fun vs H Q E => GxR.TabG H P ∧ ∃ (v : V) (D : PyData), vs = [v] ∧ Dp K H v D ∧ OkD D ∧ wish (K := K) P C H E D Q (whD D 0)
theorem ok_cst {f fR C : Addr} {fd fdR : FuncData} (F : Fun K "check_stream" "check_stream" sCst f fd) (R : Df K mg "_read_whole" sRwh ["value", "ahead"] fR fdR) (GR : FnOk Pg w K mg base (L2.CX Pg w) 5 fR fdR ["value", "ahead"] (spRwh K P C)) :
    FnOk Pg w K mg base (L2.CX Pg w) 6 f fd ["value"] (spCst K P C) := by
  refine F.okX scCst (fun vs H Q E h => ?_) (fun cdv A outer s H vs Q E hr h => ?_)
  · obtain ⟨_, _, _, rfl, _⟩ := h
    rfl
  · obtain ⟨t, v, D, rfl, hD, ok, k⟩ := h
    exact ⟨_, pss_one (ps_ret (pe_call GR hr (by rfl) R.g R.F.kp R.b .nil (passes_call (takes_of rfl rfl rfl rfl) fun _ _ _ _ h => h) (pa_cons (pv 0) (pa_cons pe_int pa_nil)))), _, rfl, t, v, D, 0, rfl, hD, ok, k⟩
/-! ### check_ending, is_stream, is_ending -/
theorem scCen : FnScope ["depth", "value"] ["depth", "value"] (defScope sCen) := ⟨rfl, rfl, rfl, by decide +kernel, rfl, by decide +kernel, by decide +kernel⟩
/-- of a depth that is none: refused -/
def spCen (K : PySem.W.Frag) (P C CR : Addr) : Sp := fun vs H Q E => GxR.TabG H P ∧ ∃ (u v : V) (U D : PyData), vs = [u, v] ∧ Dp K H u U ∧ Dp K H v D ∧ OkD D ∧ (numD U = false → Rs P CR H E u) ∧ (∀ n, U = .int n → 0 ≤ n → wish (K := K) P C H E D Q (whD D n))
theorem num_int {U : PyData} (h : numD U = true) : ∃ n, U = .int n ∧ 0 ≤ n := by
  cases U with
  | int n => exact ⟨n, rfl, of_decide_eq_true h⟩
  | _ => exact nomatch h
theorem ok_cen {f fR fN C CR fI : Addr} {fd fdR fdN fdI : FuncData} (F : Fun K "check_ending" "check_ending" sCen f fd) (T : Tx K mg) (B : ErR K mg CR fI fdI) (N : Df K mg "is_number" sNum ["value"] fN fdN)
    (R : Df K mg "_read_whole" sRwh ["value", "ahead"] fR fdR) (GR : FnOk Pg w K mg base (L2.CX Pg w) 5 fR fdR ["value", "ahead"] (spRwh K P C)) : FnOk Pg w K mg base (L2.CX Pg w) 6 f fd ["depth", "value"] (spCen K P C CR) := by
  have GN : FnOk Pg w K mg base CX0 1 fN fdN ["value"] (spNum K P) := ok_num N.F T
  have GI : FnOk Pg w K mg base CX0 1 fI fdI ["self", "at"] (spIni K CR) := ok_iniR B
  refine F.okX scCen (fun vs H Q E h => ?_) (fun cdv A outer s H vs Q E hr h => ?_)
  · obtain ⟨_, _, _, _, _, rfl, _⟩ := h
    rfl
  · obtain ⟨t, u, v, U, D, rfl, hU, hD, ok, kn, k⟩ := h
    have hr2 : Room 2 _ := hr.mono (by decide)
    refine ⟨_, pss_cons (ps_if (pt_not (pt_val (pe_call GN (hr.mono (by decide)) (by rfl) N.g N.F.kp N.b .nil pass0 (pa_cons (pv 0) pa_nil))))
        (pss_one (ps_raise rfl (takes_of rfl rfl rfl rfl) (pmk_oex B.T B.ini B.ty GI hr2 B.b .nil pass0 (by rfl) B.g (pa_cons (pv 0) pa_nil)))) pss_nil)
      (pss_one (ps_ret (pe_call GR hr (by rfl) R.g R.F.kp R.b .nil (passes_call (takes_of rfl rfl rfl rfl) fun _ _ _ _ h => h) (pa_cons (pv 1) (pa_cons (pv 0) pa_nil))))), ?_⟩
    refine ⟨_, rfl, t, _, ⟨u, U, rfl, hU, rfl⟩, fun u1 H1 s1 e => ⟨_, e, ?_⟩⟩
    cases hn : numD U with
    | false => exact iteT ⟨_, rfl, mk_err s1.2 (Rs.later s1 (kn hn))⟩
    | true =>
      obtain ⟨n, rfl, h0⟩ := num_int hn
      cases hU
      exact iteF ⟨_, rfl, _, rfl, s1.2, v, D, n, rfl, Dp.mono t s1 hD, ok, wish_later s1 (k n rfl h0)⟩
theorem scIst : FnScope ["value"] ["value"] (defScope sIst) := ⟨rfl, rfl, rfl, by decide +kernel, rfl, by decide +kernel, by decide +kernel⟩
def spIst (K : PySem.W.Frag) (P : Addr) : Sp := Pu P fun vs H R => ∃ (v : V) (D : PyData), vs = [v] ∧ Dp K H v D ∧ OkD D ∧ R = fun u _ => u = .bl (whD D 0).isNone
theorem ok_ist {f fR C fI : Addr} {fd fdR fdI : FuncData} (F : Fun K "is_stream" "is_stream" sIst f fd) (B : ErS K mg C fI fdI) (R : Df K mg "check_stream" sCst ["value"] fR fdR) (GR : FnOk Pg w K mg base (L2.CX Pg w) 6 fR fdR ["value"] (spCst K P C)) :
    FnOk Pg w K mg base CX0 7 f fd ["value"] (spIst K P) := by
  refine F.ok scIst (fun vs H Q E h => ?_) (fun cdv A outer s H vs Q E hr h => ?_)
  · obtain ⟨_, _, ⟨_, _, rfl, _⟩, _⟩ := h
    rfl
  · obtain ⟨t, _, ⟨v, D, rfl, hD, ok, rfl⟩, k⟩ := h
    refine ⟨_, pss_cons (ps_try_only (tb := fun W => tDrop (tCallS (spCst K P C) (WE W) (tCons (tVar 0) tNil))) (ts := fun _ _ _ => tRet (tC (.bl false))) (Wout := fun _ _ _ _ => False) rfl rfl ⟨rfl, by decide, Or.inl B.g⟩ takes0
        (fun W pn xe tk _ => pss_one (ps_expr (pe_callS GR hr (by rfl) R.g R.F.kp R.b (fun σ => passAt tk σ) (by exact (pa_cons (pv 0) pa_nil)))))
        (fun _ _ _ _ _ _ _ => pss_one (ps_ret pe_bl)))
      (pss_one (ps_ret pe_bl)), ?_⟩
    refine ⟨_, rfl, t, v, D, rfl, hD, ok, ?_⟩
    cases e : whD D 0 with
    | some i => exact fun d H' s1 _ => ⟨true, B.te, fun _ a _ => k _ _ s1 (by rw [e]; rfl), fun q => nomatch q⟩
    | none => exact fun q H' s1 _ => k _ _ s1 (by rw [e]; rfl)
theorem scIen : FnScope ["depth", "value"] ["depth", "value"] (defScope sIen) := ⟨rfl, rfl, rfl, by decide +kernel, rfl, by decide +kernel, by decide +kernel⟩
/-- of a depth that is none: refused -/
def spIen (K : PySem.W.Frag) (P CR : Addr) : Sp := fun vs H Q E => GxR.TabG H P ∧ ∃ (u v : V) (U D : PyData), vs = [u, v] ∧ Dp K H u U ∧ Dp K H v D ∧ OkD D ∧ (numD U = false → Rs P CR H E u) ∧ (∀ n, U = .int n → 0 ≤ n → ∀ H', Sm P H H' → Q (.bl (whD D n).isNone) H')
theorem ok_ien {f fR C CR fI fJ : Addr} {fd fdR fdI fdJ : FuncData} (F : Fun K "is_ending" "is_ending" sIen f fd) (B : ErS K mg C fI fdI) (nCR : PySem.W.exmOne K (.ref CR) (.ref C) = some false)
    (R : Df K mg "check_ending" sCen ["depth", "value"] fR fdR) (GR : FnOk Pg w K mg base (L2.CX Pg w) 6 fR fdR ["depth", "value"] (spCen K P C CR)) : FnOk Pg w K mg base (L2.CX Pg w) 7 f fd ["depth", "value"] (spIen K P CR) := by
  refine F.okX scIen (fun vs H Q E h => ?_) (fun cdv A outer s H vs Q E hr h => ?_)
  · obtain ⟨_, _, _, _, _, rfl, _⟩ := h
    rfl
  · obtain ⟨t, u, v, U, D, rfl, hU, hD, ok, kn, k⟩ := h
    refine ⟨_, pss_cons (ps_try_only (tb := fun W => tDrop (tCallS (spCen K P C CR) (WE W) (tCons (tVar 0) (tCons (tVar 1) tNil)))) (ts := fun _ _ _ => tRet (tC (.bl false))) rfl rfl ⟨rfl, by decide, Or.inl B.g⟩ (takes_of rfl rfl rfl rfl)
        (fun W pn xe tk _ => pss_one (ps_expr (pe_callS GR hr (by rfl) R.g R.F.kp R.b (fun σ => passAt tk σ) (by exact (pa_cons (pv 0) (pa_cons (pv 1) pa_nil))))))
        (fun _ _ _ _ _ _ _ => pss_one (ps_ret pe_bl)))
      (pss_one (ps_ret pe_bl)), ?_⟩
    refine ⟨_, rfl, _, rfl, t, u, v, U, D, rfl, hU, hD, ok, fun hn d H' s1 x => ⟨false, nCR, fun q => (nomatch q), fun _ => kn hn d H' s1 x⟩, fun n hU h0 => ?_⟩
    have k' := k n hU h0
    cases e : whD D n with
    | some i =>
      rw [e] at k'
      exact fun d H' s1 _ => ⟨true, B.te, fun _ a _ => k' _ s1, fun q => nomatch q⟩
    | none =>
      rw [e] at k'
      exact fun q H' s1 _ => k' _ s1
end
end K6

set_option Elab.async false
set_option linter.all false
set_option maxRecDepth 100000
set_option maxHeartbeats 4000000
namespace K6
open PySem PySem.Spec PyProof.Rows L2 So
/-! ### a prefix's signs -/
theorem tup_it (d : PyData) (h : isSq d = true) : itD (tupD d) = itD d := by
  cases d with
  | list _ => rfl
  | tuple _ => rfl
  | _ => exact nomatch h
theorem tup_sgn (d : PyData) : sgnD (tupD d) = sgnD d := by
  cases d <;> rfl
theorem tup_stp (d : PyData) : stpD (tupD d) = stpD d := by
  cases d <;> rfl
theorem tup_ok {d : PyData} (h : OkD d) : OkD (tupD d) := by
  cases d with
  | list xs =>
    have h1 := h.fit
    have h2 := h.lay
    have h3 := h.dep
    simp only [fitD] at h1
    simp only [PyData.canLay0] at h2
    simp only [PyData.depth] at h3
    exact ⟨by simp only [tupD, fitD]; exact h1, by simp only [tupD, PyData.canLay0]; exact h2, by simp only [tupD, PyData.depth]; exact h3⟩
  | _ => exact h
/-- the level behind the first i -/
def lvA (es : List PyData) (i : Nat) : Int := ((es.take i).map stpD).sum
theorem lvA_succ {es : List PyData} {i : Nat} {d : PyData} (h : es[i]? = some d) : lvA es (i + 1) = lvA es i + stpD d := by
  unfold lvA
  rw [take_snoc h, List.map_append, List.sum_append]
  simp
theorem lvA_zero (es : List PyData) : lvA es 0 = 0 := rfl
/-- signs of which none closes what is not open -/
structure PrE (es : List PyData) : Prop where
  sg : ∀ d ∈ es, sgnD d = true ∧ OkD d
  lv : ∀ i, i ≤ es.length → 0 ≤ lvA es i
  len : es.length ≤ 100000
theorem lev_pr : ∀ {es : List PyData} {i : Nat} {l m : Int}, levD es i l = .inr m → 0 ≤ l → (∀ d ∈ es, sgnD d = true) ∧ (∀ j, j ≤ es.length → 0 ≤ l + lvA es j) ∧ m = l + lvA es es.length
  | [], i, l, m, h, hl => by
    cases h
    refine ⟨fun d hd => (nomatch hd), fun j hj => ?_, by simp [lvA]⟩
    have : j = 0 := by simpa using hj
    subst this
    simpa [lvA] using hl
  | d :: r, i, l, m, h, hl => by
    rw [lev_cons] at h
    by_cases h1 : sgnD d = false
    · rw [if_pos h1] at h
      cases h
    · rw [if_neg h1] at h
      by_cases h2 : l + stpD d < 0
      · rw [if_pos h2] at h
        cases h
      · rw [if_neg h2] at h
        obtain ⟨a, b, c⟩ := lev_pr h (by omega)
        refine ⟨fun x hx => ?_, fun j hj => ?_, ?_⟩
        · rcases List.mem_cons.mp hx with rfl | hx
          · exact Bool.not_eq_false _ |>.mp h1
          · exact a x hx
        · cases j with
          | zero => simpa [lvA] using hl
          | succ j =>
            have := b j (by simpa using hj)
            unfold lvA at this ⊢
            simp only [List.take_succ_cons, List.map_cons, List.sum_cons]
            omega
        · rw [c]
          unfold lvA
          simp only [List.length_cons, List.take_succ_cons, List.map_cons, List.sum_cons, List.take_length]
          omega
theorem tups_lv (es : List PyData) (i : Nat) : lvA (es.map tupD) i = lvA es i := by
  unfold lvA
  rw [← List.map_take, List.map_map]
  congr 1
  exact List.map_congr_left fun d _ => tup_stp d
theorem rd_pr {D : PyData} {l : Int} (ok : OkD D) (h : rdD D 0 = .inr l) : PrE ((itD D).map tupD) ∧ l = lvA ((itD D).map tupD) (itD D).length := by
  unfold rdD at h
  cases hq : isSq D with
  | false =>
    rw [hq, if_neg Bool.false_ne_true] at h
    cases h
  | true =>
    rw [hq, if_pos rfl] at h
    obtain ⟨a, b, c⟩ := lev_pr h (Int.le_refl 0)
    refine ⟨⟨fun d hd => ?_, fun i hi => ?_, by rw [List.length_map]; exact okD_len ok⟩, ?_⟩
    · obtain ⟨e, he, rfl⟩ := List.mem_map.mp hd
      exact ⟨(tup_sgn e).trans (a e he), tup_ok (okD_it ok e he)⟩
    · rw [List.length_map] at hi
      have := b i hi
      rw [tups_lv]
      omega
    · rw [tups_lv]
      omega
section
variable {Pg : Program} {w : World} {K : PySem.W.Frag} {mg : Str → Option Value} {base : Heap} {P : Addr}
/-! ### closing -/
theorem scClo : FnScope ["depth"] ["depth"] (defScope sClo) := ⟨rfl, rfl, rfl, by decide +kernel, rfl, by decide +kernel, by decide +kernel⟩
def closD (n : Nat) : PyData := .tuple (List.replicate n (.tuple [.str "close"]))
def spClo (K : PySem.W.Frag) (P CR : Addr) : Sp := fun vs H Q E => GxR.TabG H P ∧ ∃ (u : V) (U : PyData), vs = [u] ∧ Dp K H u U ∧ (numD U = false → Rs P CR H E u) ∧ (∀ n : Nat, U = .int (n : Int) → n ≤ 1000 ∧ ∀ v H', Sm P H H' → Dp K H' v (closD n) → Q v H')
theorem dpa_rep {H : Hp} {v : V} {d : PyData} (h : Dp K H v d) : ∀ n, DpAll K H (List.replicate n v) (List.replicate n d)
  | 0 => .nil
  | n + 1 => .cons h (dpa_rep h n)
theorem rep_flat (v : V) : ∀ n, (List.replicate n [v]).flatten = List.replicate n v
  | 0 => rfl
  | n + 1 => by
    rw [List.replicate_succ, List.flatten_cons, rep_flat v n]
    rfl
theorem ok_clo {f fN CR fI : Addr} {fd fdN fdI : FuncData} (F : Fun K "closing" "closing" sClo f fd) (T : Tx K mg) (B : ErR K mg CR fI fdI) (N : Df K mg "is_number" sNum ["value"] fN fdN) : FnOk Pg w K mg base (L2.CX Pg w) 3 f fd ["depth"] (spClo K P CR) := by
  have GN : FnOk Pg w K mg base CX0 1 fN fdN ["value"] (spNum K P) := ok_num N.F T
  have GI : FnOk Pg w K mg base CX0 1 fI fdI ["self", "at"] (spIni K CR) := ok_iniR B
  refine F.okX scClo (fun vs H Q E h => ?_) (fun cdv A outer s H vs Q E hr h => ?_)
  · obtain ⟨_, _, _, rfl, _⟩ := h
    rfl
  · obtain ⟨t, u, U, rfl, hU, kn, k⟩ := h
    refine ⟨_, pss_cons (ps_if (pt_not (pt_val (pe_call GN (hr.mono (by decide)) (by rfl) N.g N.F.kp N.b .nil pass0 (pa_cons (pv 0) pa_nil))))
        (pss_one (ps_raise rfl (takes_of rfl rfl rfl rfl) (pmk_oex B.T B.ini B.ty GI hr B.b .nil pass0 (by rfl) B.g (pa_cons (pv 0) pa_nil)))) pss_nil)
      (pss_one (ps_ret (pe_op SoM.op_repS (pe_tup (pa_cons (pe_tup (pa_cons pe_str pa_nil)) pa_nil)) (pv 0)))), ?_⟩
    refine ⟨_, rfl, t, _, ⟨u, U, rfl, hU, rfl⟩, fun u1 H1 s1 e => ⟨_, e, ?_⟩⟩
    cases hn : numD U with
    | false => exact iteT ⟨_, rfl, mk_err s1.2 (Rs.later s1 (kn hn))⟩
    | true =>
      obtain ⟨n, rfl, h0⟩ := num_int hn
      obtain ⟨m, rfl⟩ : ∃ m : Nat, n = (m : Int) := ⟨n.toNat, by omega⟩
      obtain ⟨hm, k⟩ := k m rfl
      cases hU
      refine iteF ⟨(by show 1 ≤ sizeLine; decide), fun p hp => ⟨(by show 1 ≤ sizeLine; decide), fun q hq => ?_⟩⟩
      have s2 : Sm P H (upd H1 p (.tup [.str "close"])) := s1.trans (Sm.new s1.2 hp)
      have s3 := s2.trans (Sm.new s2.2 hq (o := .tup [.ref p]))
      have one : Dp K (upd (upd H1 p (.tup [.str "close"])) q (.tup [.ref p])) (.ref p) (.tuple [.str "close"]) := .tup (.inl (.inl (by rw [upd_ne (ne_of_none upd_same hq), upd_same]))) (.cons (.str _) .nil)
      refine ⟨_, rfl, q, _, [.ref p], rfl, rfl, .inl (.inl upd_same), (fun z => nomatch z), by omega, by omega, (by show 1 ≤ 1000; decide), fun e1 => ?_, fun _ r hr => ?_⟩
      · have e1 : m = 1 := by omega
        subst e1
        exact k _ _ s3 (.tup (.inl (.inl upd_same)) (.cons one .nil))
      · have s4 := s3.trans (Sm.new s3.2 hr (o := .tup (List.replicate (m : Int).toNat [.ref p]).flatten))
        refine k _ _ s4 (.tup (.inl (.inl upd_same)) ?_)
        rw [rep_flat]
        exact dpa_rep (Dp.mono s3.2 (Sm.new s3.2 hr) one) m
end
end K6

set_option Elab.async false
set_option linter.all false
set_option maxRecDepth 100000
set_option maxHeartbeats 4000000
/-! a call of which the called def sees not all: lists of the caller's own are hidden from it -/
namespace SoFr
open PySem PySem.Spec PyProof.Rows L2 So
def hid (ls : List Addr) (H : Hp) : Hp := fun b => if b ∈ ls then none else H b
/-- what was hidden stands again -/
def bak (ls : List Addr) (H H' : Hp) : Hp := fun b => if b ∈ ls then H b else H' b
section
variable {ls : List Addr} {H H' : Hp} {b : Addr}
theorem hid_in (h : b ∈ ls) : hid ls H b = none := if_pos h
theorem hid_out (h : b ∉ ls) : hid ls H b = H b := if_neg h
theorem bak_in (h : b ∈ ls) : bak ls H H' b = H b := if_pos h
theorem bak_out (h : b ∉ ls) : bak ls H H' b = H' b := if_neg h
/-- what may be hidden -/
def Lists (ls : List Addr) (H : Hp) : Prop := ∀ b ∈ ls, ∃ xs, H b = some (.lst xs)
theorem hid_ok {P : Program} {w : World} {h : Heap} (L : Lists ls H) (ok : HOk P w H h) : HOk P w (hid ls H) h := by
  intro a o e
  have na : a ∉ ls := fun m => by
    rw [hid_in m] at e
    cases e
  rw [hid_out na] at e
  have key : ∀ c u, H c = some u → (∀ xs, u ≠ .lst xs) → hid ls H c = some u := fun c u q n => by
    rw [hid_out fun m => ?_]
    · exact q
    · obtain ⟨xs, z⟩ := L c m
      rw [q] at z
      exact n xs (Option.some.inj z)
  exact (ok a o e).stay (fun _ _ _ q => q) (fun c q => key c _ q fun _ z => nomatch z) fun c xs q => key c _ q fun _ z => nomatch z
theorem bak_okG {P : Program} {w : World} {h h' : Heap} (L : Lists ls H) (ok : HOk P w H h) (ok' : HOk P w H' h') (gone : ∀ c ∈ ls, H' c = none) (kp : ∀ c ∈ ls, ∀ o, h.get? c = some o → h'.get? c = some o) : HOk P w (bak ls H H') h' := by
  intro a o e
  by_cases m : a ∈ ls
  · rw [bak_in m] at e
    obtain ⟨xs, q⟩ := L a m
    rw [q] at e
    cases e
    obtain ⟨z, its, n, r, g⟩ := ok a _ q
    exact ⟨z, its, n, r, kp a m _ g⟩
  · rw [bak_out m] at e
    have key : ∀ c u, H' c = some u → bak ls H H' c = some u := fun c u q => by
      rw [bak_out fun k => ?_]
      · exact q
      · rw [gone c k] at q
        cases q
    exact (ok' a o e).stay (fun _ _ _ q => q) (fun c q => key c _ q) fun c xs q => key c _ q
theorem list_at {P : Program} {w : World} {h : Heap} (L : Lists ls H) (ok : HOk P w H h) {c : Addr} (m : c ∈ ls) : ∃ o, h.get? c = some o := by
  obtain ⟨xs, e⟩ := L c m
  obtain ⟨_, its, n, _, q⟩ := ok c _ e
  exact ⟨_, q⟩
theorem bak_ok {P : Program} {w : World} {fs : List Addr} {h h' : Heap} (L : Lists ls H) (ok : HOk P w H h) (ok' : HOk P w H' h') (u : Un fs [] (hid ls H) H' h h') (nf : ∀ b ∈ fs, H b = none) : HOk P w (bak ls H H') h' := by
  refine bak_okG L ok ok' (fun c m => ?_) (fun c m o q => u.keep c o q (hid_in m) (fun f => ?_) (fun z => nomatch z))
  · obtain ⟨o, q⟩ := list_at L ok m
    exact u.free c o q (hid_in m) (fun z => nomatch z)
  · obtain ⟨xs, e⟩ := L c m
    rw [nf c f] at e
    cases e
theorem bak_un {P : Program} {w : World} {fs : List Addr} {h h' : Heap} (L : Lists ls H) (ok : HOk P w H h) (u : Un fs [] (hid ls H) H' h h') : Un fs [] H (bak ls H H') h h' where
  keep := fun b o g n f x => u.keep b o g (by unfold hid; rw [n]; split <;> rfl) f x
  slot := fun b o g n f x => u.slot b o g (by unfold hid; rw [n]; split <;> rfl) f x
  free := fun b o g n x => by
    have nb : b ∉ ls := fun m => by
      obtain ⟨xs, q⟩ := L b m
      rw [n] at q
      cases q
    rw [bak_out nb]
    exact u.free b o g ((hid_out nb).trans n) x
  there := u.there
  tups := fun b xs q => by
    have nb : b ∉ ls := fun m => by
      obtain ⟨ys, z⟩ := L b m
      rw [q] at z
      cases z
    rw [bak_out nb]
    exact u.tups b xs ((hid_out nb).trans q)
  frzs := fun b o v q => by
    have nb : b ∉ ls := fun m => by
      obtain ⟨ys, z⟩ := L b m
      rw [q] at z
      cases z
    rw [bak_out nb]
    exact u.frzs b o v ((hid_out nb).trans q)
  tbls := fun b ps q => by
    have nb : b ∉ ls := fun m => by
      obtain ⟨ys, z⟩ := L b m
      rw [q] at z
      cases z
    rw [bak_out nb]
    exact u.tbls b ps ((hid_out nb).trans q)
end
section
variable {X : Cx} {CX : CXT} {k : Nat} {f : Addr} {fd : FuncData} {ps : List Str} {sp : Sp} {E : XK} {x : Str} {p pos : Pos} {e : Expr} {es : List Expr} {t : TA}
/-- f(..), lists of one's own hidden; of an error nothing but that it is told -/
@[irreducible] def hideK (sp : Sp) (E : XK) : List V → Hp → VK → Prop := fun vs H1 Q => ∃ ls : List Addr, Lists ls H1 ∧ sp vs (hid ls H1) (fun v H2 => (∀ b ∈ ls, H2 b = none) → Q v (bak ls H1 H2)) (fun cls d H2 => (∀ b ∈ ls, H2 b = none) → E cls d (bak ls H1 H2))
def tCallH (sp : Sp) (t : TA) : TE := fun σ H Q => t σ H fun vs H1 => hideK sp (fun _ _ _ => False) vs H1 Q
theorem pe_callH (F : FnOk X.prog X.w X.K X.mg X.base CX0 k f fd ps sp) (hr : Room k X.A) (hg : Gl X x) (hm : X.mg x = some (.ref f)) (hk : PySem.W.keepIn X.K (.ref f) = true) (hb : Binds X.K fd ps []) (ha : PA X (e :: es) t)
    (hdb : (x == ("__debug__" : Str)) = false := by decide) (he : starEach (e :: es) X.env = (false, eval e X.env) :: starEach es X.env := by rfl) (hpl : (backTo pos (starEach es X.env)).any (·.1) = false := by rfl) :
    PE X (.Call (.Name x p) (e :: es) [] pos) (tCallH sp t) := by
  refine ⟨fun pins s σ H Q I h => wpAny_Call_Name_kw (ld_glob I hg hm ?_ hdb)⟩
  refine PySem.W.callWith_K (h₀ := X.base) I.ok.mod.kin hk ?_ he hpl
  refine thn (ha.run pos pins s σ H _ I h) fun us s1 ⟨vs, H1, J, r, hh⟩ => ⟨J.kIn, ?_⟩
  unfold hideK at hh
  obtain ⟨ls, L, q⟩ := hh
  have hl : us.length = ps.length := r.length.symm.trans (F.len _ _ _ _ q)
  have B := hb s1 us J.kIn (by rw [List.append_nil]; exact hl)
  rw [List.append_nil] at B
  have e0 := J.env0
  have e1 : Env0 X.prog X.w X.K X.mg X.base X.A X.stack s1 (hid ls H1) :=
    { frames := e0.frames
      mod := e0.mod
      bs := fun b o g => ⟨(e0.bs b o g).1, by unfold hid; rw [(e0.bs b o g).2]; split <;> rfl⟩
      bsz := e0.bsz
      funs := e0.funs
      frf := fun b m => by unfold hid; rw [e0.frf b m]; split <;> rfl
      hok := hid_ok L e0.hok
      bare := e0.bare }
  refine wpAny_call (codeAny_mono (F.run X.A X.stack s1 (hid ls H1) ⟨us, []⟩ us vs _ _ hr e1 B r q) fun z s' hq => ?_)
  match z, hq with
  | .error e, hq => exact hq.elim
  | .ok (.ret u), ⟨v, H2, os, bare, un, hok, rv, z⟩ =>
    refine J.after ⟨v, bak ls H1 H2, os, bare, bak_un L e0.hok un, bak_ok L e0.hok hok un e0.frf, rv, z fun b m => ?_⟩
    obtain ⟨xs, e⟩ := L b m
    obtain ⟨_, its, n, _, g⟩ := e0.hok b _ e
    exact un.free b _ g (hid_in m) (fun z => nomatch z)
end
/-! ### where the called def may raise -/
section
variable {ls : List Addr} {H H' : Hp} {P : Program} {w : World} {outer : List Env} {s s' : Shared} {E E' : XK} {u : Value}
theorem cx_bak (L : Lists ls H) (ok : HOk P w H s.heap) (nf : ∀ b ∈ frs outer, H b = none) (h : L2.CX P w outer (hid ls H) s E' u s') (hE : ∀ cls d H2, E' cls d H2 → (∀ b ∈ ls, H2 b = none) → E cls d (bak ls H H2)) : L2.CX P w outer H s E u s' := by
  obtain ⟨a, B, H2, cls, d, rfl, fl, hok, ub, na, os, ag, q⟩ := h
  have nfr : ∀ c ∈ ls, c ∉ frs outer := fun c m f => by
    obtain ⟨xs, e⟩ := L c m
    rw [nf c f] at e
    cases e
  have gone : ∀ c ∈ ls, H2 c = none := fun c m => by
    obtain ⟨o, g⟩ := list_at L ok m
    exact ub.free c o g (hid_in m)
  have kp : ∀ c ∈ ls, ∀ o, s.heap.get? c = some o → B.get? c = some o := fun c m o g => ub.keep c o g (hid_in m) (nfr c m)
  have nb : ∀ {b}, H b = none → b ∉ ls := fun n m => by
    obtain ⟨xs, z⟩ := L _ m
    rw [n] at z
    cases z
  have nl : ∀ {b u}, H b = some u → (∀ xs, u ≠ .lst xs) → b ∉ ls := fun e n m => by
    obtain ⟨xs, z⟩ := L _ m
    rw [e] at z
    exact n xs (Option.some.inj z)
  have hn : ∀ {b}, H b = none → hid ls H b = none := fun n => (hid_out (nb n)).trans n
  refine ⟨a, B, bak ls H H2, cls, d, rfl, fl, bak_okG L ok hok gone kp, ?_, ?_, os, ag, hE cls d H2 q gone⟩
  · refine ⟨fun b o g n f => ub.keep b o g (hn n) f, ub.slot, fun b o g n => ?_, ub.there, fun b xs e => ?_, fun b o v e => ?_, fun b ps e => ?_⟩
    · rw [bak_out (nb n)]
      exact ub.free b o g (hn n)
    · have z := nl e fun _ q => nomatch q
      rw [bak_out z]
      exact ub.tups b xs ((hid_out z).trans e)
    · have z := nl e fun _ q => nomatch q
      rw [bak_out z]
      exact ub.frzs b o v ((hid_out z).trans e)
    · have z := nl e fun _ q => nomatch q
      rw [bak_out z]
      exact ub.tbls b ps ((hid_out z).trans e)
  · by_cases m : a ∈ ls
    · obtain ⟨o, g⟩ := list_at L ok m
      have g' := kp a m o g
      rw [fl.2.1] at g'
      cases g'
    · rw [bak_out m]
      exact na
end
section
variable {X : Cx} {k : Nat} {f : Addr} {fd : FuncData} {ps : List Str} {sp : Sp} {E : XK} {x : Str} {p pos : Pos} {e : Expr} {es : List Expr} {t : TA}
/-- the same of a def that may raise -/
def tCallHX (sp : Sp) (E : XK) (t : TA) : TE := fun σ H Q => t σ H fun vs H1 => hideK sp E vs H1 Q
theorem pe_callHX (F : FnOk X.prog X.w X.K X.mg X.base (L2.CX X.prog X.w) k f fd ps sp) (hr : Room k X.A) (hg : Gl X x) (hm : X.mg x = some (.ref f)) (hk : PySem.W.keepIn X.K (.ref f) = true) (hb : Binds X.K fd ps []) (hx : Passes (L2.CX X.prog X.w) X E) (ha : PA X (e :: es) t)
    (hdb : (x == ("__debug__" : Str)) = false := by decide) (he : starEach (e :: es) X.env = (false, eval e X.env) :: starEach es X.env := by rfl) (hpl : (backTo pos (starEach es X.env)).any (·.1) = false := by rfl) :
    PE X (.Call (.Name x p) (e :: es) [] pos) (tCallHX sp E t) := by
  refine ⟨fun pins s σ H Q I h => wpAny_Call_Name_kw (ld_glob I hg hm ?_ hdb)⟩
  refine PySem.W.callWith_K (h₀ := X.base) I.ok.mod.kin hk ?_ he hpl
  refine thn (ha.run pos pins s σ H _ I h) fun us s1 ⟨vs, H1, J, r, hh⟩ => ⟨J.kIn, ?_⟩
  unfold hideK at hh
  obtain ⟨ls, L, q⟩ := hh
  have hl : us.length = ps.length := r.length.symm.trans (F.len _ _ _ _ q)
  have B := hb s1 us J.kIn (by rw [List.append_nil]; exact hl)
  rw [List.append_nil] at B
  have e0 := J.env0
  have e1 : Env0 X.prog X.w X.K X.mg X.base X.A X.stack s1 (hid ls H1) :=
    { frames := e0.frames
      mod := e0.mod
      bs := fun b o g => ⟨(e0.bs b o g).1, by unfold hid; rw [(e0.bs b o g).2]; split <;> rfl⟩
      bsz := e0.bsz
      funs := e0.funs
      frf := fun b m => by unfold hid; rw [e0.frf b m]; split <;> rfl
      hok := hid_ok L e0.hok
      bare := e0.bare }
  refine wpAny_call (codeAny_mono (F.run X.A X.stack s1 (hid ls H1) ⟨us, []⟩ us vs _ _ hr e1 B r q) fun z s' hq => ?_)
  match z, hq with
  | .error e, hq => exact hx pins σ H1 s1 e s' J (cx_bak L e0.hok e0.frf hq fun cls d H2 q g => q g)
  | .ok (.ret u), ⟨v, H2, os, bare, un, hok, rv, z⟩ =>
    refine J.after ⟨v, bak ls H1 H2, os, bare, bak_un L e0.hok un, bak_ok L e0.hok hok un e0.frf, rv, z fun b m => ?_⟩
    obtain ⟨o, g⟩ := list_at L e0.hok m
    exact un.free b _ g (hid_in m) (fun z => nomatch z)
end
/-! ### one list of one's own -/
theorem hid_one {l : Addr} {G : Hp} {o : HO} (n : G l = none) : hid [l] (upd G l o) = G := by
  funext b
  unfold hid
  by_cases e : b = l
  · rw [if_pos (by rw [e]; exact List.mem_singleton.mpr rfl), e, n]
  · rw [if_neg (fun m => e (List.mem_singleton.mp m)), upd_ne e]
theorem bak_one {l : Addr} {G G' : Hp} {o : HO} : bak [l] (upd G l o) G' = upd G' l o := by
  funext b
  unfold bak
  by_cases e : b = l
  · rw [if_pos (by rw [e]; exact List.mem_singleton.mpr rfl), e, upd_same, upd_same]
  · rw [if_neg (fun m => e (List.mem_singleton.mp m)), upd_ne e]
theorem lists_one {l : Addr} {G : Hp} {xs : List V} : Lists [l] (upd G l (.lst xs)) := fun b m => ⟨xs, by rw [List.mem_singleton.mp m, upd_same]⟩
/-- the reading of a call, the list at l hidden -/
theorem hide_one {sp : Sp} {E : XK} {G : Hp} {l : Addr} {xs : List V} {vs : List V} {Q : VK} (n : G l = none)
    (h : sp vs G (fun v G' => G' l = none → Q v (upd G' l (.lst xs))) (fun cls d G' => G' l = none → E cls d (upd G' l (.lst xs)))) : hideK sp E vs (upd G l (.lst xs)) Q := by
  unfold hideK
  refine ⟨[l], lists_one, ?_⟩
  rw [hid_one n]
  have e : (fun (v : V) (H2 : Hp) => (∀ b ∈ [l], H2 b = none) → Q v (bak [l] (upd G l (.lst xs)) H2)) = fun v G' => G' l = none → Q v (upd G' l (.lst xs)) := by
    funext v G'
    rw [bak_one]
    refine propext ⟨fun q z => q fun b m => by rw [List.mem_singleton.mp m]; exact z, fun q z => q (z l (List.mem_singleton.mpr rfl))⟩
  have e2 : (fun (c : Value) (d : Option Addr) (H2 : Hp) => (∀ b ∈ [l], H2 b = none) → E c d (bak [l] (upd G l (.lst xs)) H2)) = fun c d G' => G' l = none → E c d (upd G' l (.lst xs)) := by
    funext c d G'
    rw [bak_one]
    refine propext ⟨fun q z => q fun b m => by rw [List.mem_singleton.mp m]; exact z, fun q z => q (z l (List.mem_singleton.mpr rfl))⟩
  rw [e, e2]
  exact h
end SoFr

set_option Elab.async false
set_option linter.all false
set_option maxRecDepth 100000
set_option maxHeartbeats 4000000
namespace K6
open PySem PySem.Spec PyProof.Rows L2 So SoFr
/-- no mistake: what check_prefix gives -/
theorem pr_none {D : PyData} (h : prD D = none) : ∃ l, rdD D 0 = .inr l := by
  unfold prD at h
  cases e : rdD D 0 with
  | inl i =>
    rw [e] at h
    cases h
  | inr l => exact ⟨l, rfl⟩
/-- the levels behind none of the signs, the first, .. -/
def lvsV (es : List PyData) (i : Nat) : List V := (List.range (i + 1)).map fun j => V.int (lvA es j)
def lvsD (es : List PyData) : List PyData := (List.range (es.length + 1)).map fun j => PyData.int (lvA es j)
theorem lvs_snoc (es : List PyData) (i : Nat) : lvsV es (i + 1) = lvsV es i ++ [V.int (lvA es (i + 1))] := by
  unfold lvsV
  rw [List.range_succ, List.map_append]
  rfl
theorem lvs_last (es : List PyData) (i : Nat) : ∃ xs, lvsV es i = xs ++ [V.int (lvA es i)] := by
  unfold lvsV
  rw [List.range_succ, List.map_append]
  exact ⟨_, rfl⟩
theorem lvs_dp {K : PySem.W.Frag} {H : Hp} {es : List PyData} : ∀ L : List Nat, DpAll K H (L.map fun j => V.int (lvA es j)) (L.map fun j => PyData.int (lvA es j))
  | [] => .nil
  | j :: r => .cons (.int _) (lvs_dp r)
theorem xd_upd {G : Hp} {d l : Addr} {v : V} {o : HO} (x : Xd G d v) (n : G l = none) : Xd (upd G l o) d v := by
  unfold Xd at x ⊢
  rw [upd_ne (ne_of_none x n)]
  exact x
section
variable {Pg : Program} {w : World} {K : PySem.W.Frag} {mg : Str → Option Value} {base : Heap} {P : Addr}
/-! ### depths -/
theorem scDps : FnScope ["prefix", "levels", "sign"] ["prefix"] (defScope sDps) := ⟨rfl, rfl, rfl, by decide +kernel, rfl, by decide +kernel, by decide +kernel⟩
def spDps (K : PySem.W.Frag) (P C : Addr) : Sp := fun vs H Q E => GxR.TabG H P ∧ ∃ (v : V) (D : PyData), vs = [v] ∧ Dp K H v D ∧ OkD D ∧
  (match prD D with
   | some i => Rs P C H E (.int i)
   | none => ∀ v' H', Sm P H H' → Dp K H' v' (.tuple (lvsD ((itD D).map tupD))) → Q v' H')
theorem ok_dps {f fR fT C : Addr} {fd fdR fdT : FuncData} (F : Fun K "depths" "depths" sDps f fd) (T : Tx K mg) (R : Df K mg "check_prefix" sCpf ["value"] fR fdR) (GR : FnOk Pg w K mg base (L2.CX Pg w) 5 fR fdR ["value"] (spCpf K P C)) (S : Df K mg "_step_of" sStp ["sign"] fT fdT) :
    FnOk Pg w K mg base (L2.CX Pg w) 6 f fd ["prefix"] (spDps K P C) := by
  have GS : FnOk Pg w K mg base CX0 1 fT fdT ["sign"] (spStp K P) := ok_stp S.F
  refine F.okX scDps (fun vs H Q E h => ?_) (fun cdv A outer s H vs Q E hr h => ?_)
  · obtain ⟨_, _, _, rfl, _⟩ := h
    rfl
  · obtain ⟨t, v, D, rfl, hD, ok, k⟩ := h
    refine ⟨_, pss_cons (ps_set (i := 1) scDps.nd rfl (Or.inl rfl) (pe_lst (pa_cons pe_int pa_nil)))
      (pss_cons (ps_for (passes_of rfl) rfl (pi_tup (pe_callHX GR hr (by rfl) R.g R.F.kp R.b (passes_call (takes_of rfl rfl rfl rfl) fun _ _ _ _ h => h) (pa_cons (pv 0) pa_nil))) (pg_name (i := 2) scDps.nd rfl (Or.inl rfl))
        (pss_one (ps_expr (pe_bm PySem.F.plainAttrs_list PySem.F.slot_list_append PySem.F.type_list_append mt_append (pv 1) (pa_cons (pe_op op_add (pe_ix ix_list (pv 1) (pe_un un_neg pe_int) (fun _ _ => rfl)) (pe_callH GS (hr.mono (by decide)) (by rfl) S.g S.F.kp S.b (pa_cons (pv 2) pa_nil))) pa_nil)))))
      (pss_one (ps_ret (pe_tupleOf (by rfl) T.tuple (pv 1))))), ?_⟩
    refine ⟨(by show 1 ≤ sizeLine; decide), fun l hl => ?_⟩
    have lP : l ≠ P := nPt t hl
    refine ⟨_, rfl, hide_one hl ⟨t, v, D, rfl, hD, ok, ?_⟩⟩
    cases e : prD D with
    | some i =>
      rw [e] at k
      exact fun d G s1 x n => k d _ (s1.mut hl lP) (xd_upd x n)
    | none =>
      rw [e] at k
      obtain ⟨m, hm⟩ := pr_none e
      obtain ⟨pr, _⟩ := rd_pr ok hm
      intro q H1 s1 hq n1
      cases hq with
      | @tup a xs _ hx hi =>
        have lx := dpa_len hi
        generalize (itD D).map tupD = es at *
        have tupS : ∀ {G : Hp} {ys : List V}, Sm P H1 G → G l = none → SqT K (upd G l (.lst ys)) a xs := fun s n => (Sm.new s.2 n).tup s.2 (s.tup s1.2 hx)
        refine ⟨a, rfl, ⟨xs, tupS (Sm.refl s1.2) n1⟩, for_tup (xs := xs) (fun i σ H' => ∃ (v2 : Option V) (G : Hp), σ = [some v, some (.ref l), v2] ∧ Sm P H1 G ∧ G l = none ∧ H' = upd G l (.lst (lvsV es i))) ⟨none, H1, rfl, Sm.refl s1.2, n1, rfl⟩ ?_ ?_ ?_⟩
        · rintro i σ' H' _ ⟨_, G, _, s2, n2, rfl⟩
          exact tupS s2 n2
        · rintro i x σ H' hxi ⟨v2, G, rfl, s2, n2, rfl⟩
          obtain ⟨d, hdi, hd⟩ := dpa_at hi hxi
          obtain ⟨sg, okd⟩ := pr.sg d (List.mem_of_getElem? hdi)
          obtain ⟨ys, hys⟩ := lvs_last es i
          refine ⟨_, rfl, .inl ⟨rfl, _, SqL.of upd_same⟩, _, rfl, 1, rfl, l, _, _, _, rfl, rfl, SqL.of upd_same, (by rw [hys]; exact atI_last ys _), ?_⟩
          refine ⟨_, rfl, hide_one n2 ⟨s2.2, _, ⟨x, d, rfl, Dp.mono s1.2 s2 hd, okd, sg, rfl⟩, fun u G2 s3 e n3 => ?_⟩⟩
          subst e
          refine ⟨_, _, rfl, rfl, l, _, _, rfl, rfl, upd_same, ?_, some x, G2, rfl, s2.trans s3, n3, ?_⟩
          · unfold lvsV
            rw [List.length_map, List.length_range]
            have := (List.getElem?_eq_some_iff.mp hdi).1
            have := pr.len
            exact ly_of (by omega)
          · rw [upd_upd, lvs_snoc, lvA_succ hdi]
        · rintro σ H' ⟨v2, G, rfl, s2, n2, rfl⟩
          refine ⟨_, rfl, .inl ⟨l, _, rfl, SqL.of upd_same, fun q hq => ?_⟩⟩
          have s3 : Sm P H (upd G l (.lst (lvsV es xs.length))) := (s1.trans s2).mut hl lP
          refine k _ _ (s3.trans (Sm.new s3.2 hq)) (.tup (.inl (.inl upd_same)) ?_)
          rw [lx]
          exact lvs_dp _
/-! ### open_labels -/
theorem scOpl : FnScope ["prefix", "labels", "sign"] ["prefix"] (defScope sOpl) := ⟨rfl, rfl, rfl, by decide +kernel, rfl, by decide +kernel, by decide +kernel⟩
/-- the labels that are open behind a sign -/
def oplS (L : List PyData) (d : PyData) : List PyData := match itD d with
  | a :: r => if isS a "open" = true then L ++ r else if isS a "close" = true then L.dropLast else L
  | [] => L
def oplD (es : List PyData) (i : Nat) : List PyData := (es.take i).foldl oplS []
theorem opl_succ {es : List PyData} {i : Nat} {d : PyData} (h : es[i]? = some d) : oplD es (i + 1) = oplS (oplD es i) d := by
  unfold oplD
  rw [take_snoc h, List.foldl_append]
  rfl
theorem opl_len {es : List PyData} (pr : PrE es) : ∀ i, i ≤ es.length → ((oplD es i).length : Int) = lvA es i
  | 0, _ => rfl
  | i + 1, h => by
    have hi : i < es.length := h
    have e : es[i]? = some es[i] := List.getElem?_eq_getElem hi
    have ih := opl_len pr i (Nat.le_of_lt hi)
    have h1 := pr.lv (i + 1) h
    rw [lvA_succ e] at h1 ⊢
    rw [opl_succ e]
    obtain ⟨sg, _⟩ := pr.sg es[i] (List.getElem_mem hi)
    obtain ⟨hq, a, r, hr⟩ := sgn_cons sg
    unfold oplS stpD at *
    unfold sgnD fauD at sg
    rw [hr] at sg h1 ⊢
    dsimp only at h1 ⊢
    by_cases q : isS a "open" = true
    · rw [if_pos q] at h1 ⊢
      cases r with
      | nil =>
        have := isS_iff.mp q
        subst this
        exact absurd sg (by decide +kernel)
      | cons b r => cases r with
        | nil =>
          rw [if_pos q, List.length_append]
          simp only [List.length_cons, List.length_nil]
          omega
        | cons _ _ => exact absurd sg Bool.false_ne_true
    · rw [if_neg q] at h1 ⊢
      by_cases q2 : isS a "close" = true
      · rw [if_pos q2] at h1 ⊢
        rw [if_neg q, if_pos q2, List.length_dropLast]
        omega
      · rw [if_neg q2] at h1 ⊢
        rw [if_neg q, if_neg q2]
        omega
theorem opl_bound {es : List PyData} (pr : PrE es) : ∀ i, i ≤ es.length → (oplD es i).length ≤ 100000 := fun i h => by
  have key : ∀ j, j ≤ es.length → lvA es j ≤ j := by
    intro j
    induction j with
    | zero => exact fun _ => Int.le_refl _
    | succ j ih =>
      intro hj
      have e : es[j]? = some es[j] := List.getElem?_eq_getElem hj
      have := ih (Nat.le_of_lt hj)
      rw [lvA_succ e]
      have : stpD es[j] ≤ 1 := by
        unfold stpD
        split
        · split
          · exact Int.le_refl _
          · split <;> decide
        · decide
      omega
  have h1 := opl_len pr i h
  have h2 := key i h
  have := pr.len
  omega
end
end K6

set_option Elab.async false
set_option linter.all false
set_option maxRecDepth 100000
set_option maxHeartbeats 4000000
namespace K6
open PySem PySem.Spec PyProof.Rows L2 So SoFr
theorem sgn_open {d a : PyData} {r : List PyData} (sg : sgnD d = true) (e : itD d = a :: r) (q : isS a "open" = true) : ∃ z : Str, r = [.str z] ∧ isLab z = true := by
  unfold sgnD fauD at sg
  rw [e] at sg
  have ea := isS_iff.mp q
  subst ea
  cases r with
  | nil => exact absurd sg (by decide +kernel)
  | cons b r => cases r with
    | nil =>
      dsimp only at sg
      rw [if_pos q] at sg
      cases hb : labD b with
      | false =>
        rw [hb, if_neg Bool.false_ne_true] at sg
        exact nomatch sg
      | true => cases b with
        | str z => exact ⟨z, rfl, hb⟩
        | _ => exact nomatch hb
    | cons _ _ => exact absurd sg Bool.false_ne_true
theorem opl_str {es : List PyData} (pr : PrE es) : ∀ i, i ≤ es.length → ∃ L : List Str, oplD es i = L.map PyData.str
  | 0, _ => ⟨[], rfl⟩
  | i + 1, h => by
    have hi : i < es.length := h
    obtain ⟨L, hL⟩ := opl_str pr i (Nat.le_of_lt hi)
    have e : es[i]? = some es[i] := List.getElem?_eq_getElem hi
    obtain ⟨sg, _⟩ := pr.sg es[i] (List.getElem_mem hi)
    obtain ⟨hq, a, r, hr⟩ := sgn_cons sg
    rw [opl_succ e, hL]
    unfold oplS
    rw [hr]
    dsimp only
    by_cases q : isS a "open" = true
    · obtain ⟨z, rfl, _⟩ := sgn_open sg hr q
      exact ⟨L ++ [z], by rw [if_pos q, List.map_append]; rfl⟩
    · rw [if_neg q]
      by_cases q2 : isS a "close" = true
      · exact ⟨L.dropLast, by rw [if_pos q2, List.map_dropLast]⟩
      · exact ⟨L, by rw [if_neg q2]⟩
def strsV (L : List Str) : List V := L.map V.str
theorem strs_dp {K : PySem.W.Frag} {H : Hp} : ∀ L : List Str, DpAll K H (strsV L) (L.map PyData.str)
  | [] => .nil
  | z :: r => .cons (.str z) (strs_dp r)
theorem strs_inj {L M : List Str} (h : L.map PyData.str = M.map PyData.str) : L = M := List.map_inj_right (fun _ _ => PyData.str.inj) |>.mp h
section
variable {Pg : Program} {w : World} {K : PySem.W.Frag} {mg : Str → Option Value} {base : Heap} {P : Addr}
def spOpl (K : PySem.W.Frag) (P C : Addr) : Sp := fun vs H Q E => GxR.TabG H P ∧ ∃ (v : V) (D : PyData), vs = [v] ∧ Dp K H v D ∧ OkD D ∧
  (match prD D with
   | some i => Rs P C H E (.int i)
   | none => ∀ v' H', Sm P H H' → Dp K H' v' (.tuple (oplD ((itD D).map tupD) (itD D).length)) → Q v' H')
theorem ok_opl {f fR C : Addr} {fd fdR : FuncData} (F : Fun K "open_labels" "open_labels" sOpl f fd) (T : Tx K mg) (R : Df K mg "check_prefix" sCpf ["value"] fR fdR) (GR : FnOk Pg w K mg base (L2.CX Pg w) 5 fR fdR ["value"] (spCpf K P C)) :
    FnOk Pg w K mg base (L2.CX Pg w) 6 f fd ["prefix"] (spOpl K P C) := by
  refine F.okX scOpl (fun vs H Q E h => ?_) (fun cdv A outer s H vs Q E hr h => ?_)
  · obtain ⟨_, _, _, rfl, _⟩ := h
    rfl
  · obtain ⟨t, v, D, rfl, hD, ok, k⟩ := h
    have hu := hr.units
    refine ⟨_, pss_cons (ps_set (i := 1) scOpl.nd rfl (Or.inl rfl) (pe_lst pa_nil))
      (pss_cons (ps_for (passes_of rfl) rfl (pi_tup (pe_callHX GR hr (by rfl) R.g R.F.kp R.b (passes_call (takes_of rfl rfl rfl rfl) fun _ _ _ _ h => h) (pa_cons (pv 0) pa_nil))) (pg_name (i := 2) scOpl.nd rfl (Or.inl rfl))
        (pss_one (ps_if (pt_cmpR (op_eqD hu) (pe_ix ix_sq (pv 2) pe_int (fun _ _ => rfl)) pe_str (nomark _))
          (pss_one (ps_expr (pe_bm PySem.F.plainAttrs_list PySem.F.slot_list_append PySem.F.type_list_append mt_append (pv 1) (pa_cons (pe_ix ix_sq (pv 2) pe_int (fun _ _ => rfl)) pa_nil))))
          (pss_one (ps_if (pt_cmpR (op_eqD hu) (pe_ix ix_sq (pv 2) pe_int (fun _ _ => rfl)) pe_str (nomark _))
            (pss_one (ps_expr (pe_bm0 PySem.F.plainAttrs_list PySem.F.slot_list_pop PySem.F.type_list_pop mt_pop (pv 1)))) pss_nil)))))
      (pss_one (ps_ret (pe_tupleOf (by rfl) T.tuple (pv 1))))), ?_⟩
    refine ⟨Nat.zero_le _, fun l hl => ?_⟩
    have lP : l ≠ P := nPt t hl
    refine ⟨_, rfl, hide_one hl ⟨t, v, D, rfl, hD, ok, ?_⟩⟩
    cases e : prD D with
    | some i =>
      rw [e] at k
      exact fun d G s1 x n => k d _ (s1.mut hl lP) (xd_upd x n)
    | none =>
      rw [e] at k
      obtain ⟨m, hm⟩ := pr_none e
      obtain ⟨pr, _⟩ := rd_pr ok hm
      have le : ((itD D).map tupD).length = (itD D).length := List.length_map ..
      rw [← le] at k
      intro q H1 s1 hq n1
      cases hq with
      | @tup a xs _ hx hi =>
        have lx := dpa_len hi
        generalize (itD D).map tupD = es at *
        have tupS : ∀ {G : Hp} {ys : List V}, Sm P H1 G → G l = none → SqT K (upd G l (.lst ys)) a xs := fun s n => (Sm.new s.2 n).tup s.2 (s.tup s1.2 hx)
        refine ⟨a, rfl, ⟨xs, tupS (Sm.refl s1.2) n1⟩, for_tup (xs := xs) (fun i σ H' => ∃ (v2 : Option V) (L : List Str), σ = [some v, some (.ref l), v2] ∧ oplD es i = L.map PyData.str ∧ H' = upd H1 l (.lst (strsV L))) ⟨none, [], rfl, rfl, rfl⟩ ?_ ?_ ?_⟩
        · rintro i σ' H' _ ⟨_, L, _, _, rfl⟩
          exact tupS (Sm.refl s1.2) n1
        · rintro i x σ H' hxi ⟨v2, L, rfl, hL, rfl⟩
          obtain ⟨d, hdi, hd⟩ := dpa_at hi hxi
          have hi' := (List.getElem?_eq_some_iff.mp hdi).1
          obtain ⟨sg, okd⟩ := pr.sg d (List.mem_of_getElem? hdi)
          obtain ⟨hq, b, r, hr'⟩ := sgn_cons sg
          have okb := okD_it okd b (by rw [hr']; exact List.mem_cons_self ..)
          have sn : Sm P H1 (upd H1 l (.lst (strsV L))) := Sm.new s1.2 n1
          obtain ⟨p, zs, rfl, hz, hzs⟩ := dp_seq (Dp.mono s1.2 sn hd) hq
          rw [hr'] at hzs
          have nxt := opl_succ hdi
          rw [hL] at nxt
          unfold oplS at nxt
          rw [hr'] at nxt
          dsimp only at nxt
          cases hzs with
          | @cons x0 r0 _ _ h0 hr0 =>
            refine ⟨_, rfl, at_sq hz (atI_nat (j := 0) rfl) ⟨b, .str "open", h0, .str _, okb.sh, by decide +kernel, _, rfl, ?_⟩⟩
            rw [eqv_str]
            refine ite2 (fun q => ?_) (fun q => ?_)
            · obtain ⟨z, rfl, hlab⟩ := sgn_open sg hr' q
              rw [if_pos q] at nxt
              cases hr0 with
              | cons h1 _ =>
                cases h1
                refine ⟨_, rfl, .inl ⟨rfl, _, SqL.of upd_same⟩, _, rfl, at_sq hz (atI_nat (j := 1) rfl) ⟨l, _, _, rfl, rfl, upd_same, ?_, some (.ref p), L ++ [z], rfl, ?_, ?_⟩⟩
                · have := opl_len pr i (Nat.le_of_lt hi')
                  have h2 : L.length = (oplD es i).length := by rw [hL, List.length_map]
                  unfold strsV
                  rw [List.length_map]
                  refine ly_of ?_
                  have := opl_bound pr i (Nat.le_of_lt hi')
                  omega
                · rw [nxt, List.map_append]
                  rfl
                · rw [upd_upd]
                  unfold strsV
                  rw [List.map_append]
                  rfl
            · rw [if_neg q] at nxt
              refine ⟨_, rfl, at_sq hz (atI_nat (j := 0) rfl) ⟨b, .str "close", h0, .str _, okb.sh, by decide +kernel, _, rfl, ?_⟩⟩
              rw [eqv_str]
              refine ite2 (fun q2 => ?_) (fun q2 => ?_)
              · rw [if_pos q2] at nxt
                have pos : 0 < L.length := by
                  have h1 := pr.lv (i + 1) hi'
                  rw [lvA_succ hdi] at h1
                  unfold stpD at h1
                  rw [hr'] at h1
                  dsimp only at h1
                  rw [if_neg q, if_pos q2] at h1
                  have h2 := opl_len pr i (Nat.le_of_lt hi')
                  have h3 : L.length = (oplD es i).length := by rw [hL, List.length_map]
                  omega
                obtain ⟨y, hy⟩ : ∃ y, (strsV L)[(strsV L).length - 1]? = some y := ⟨_, List.getElem?_eq_getElem (by unfold strsV; rw [List.length_map]; omega)⟩
                refine ⟨_, rfl, .inl ⟨rfl, _, SqL.of upd_same⟩, l, _, y, rfl, rfl, upd_same, hy, some (.ref p), L.dropLast, rfl, ?_, ?_⟩
                · rw [nxt, List.map_dropLast]
                · rw [upd_upd]
                  unfold strsV
                  rw [List.map_dropLast]
              · rw [if_neg q2] at nxt
                exact ⟨some (.ref p), L, rfl, nxt, rfl⟩
        · rintro σ H' ⟨v2, L, rfl, hL, rfl⟩
          rw [lx] at hL
          refine ⟨_, rfl, .inl ⟨l, _, rfl, SqL.of upd_same, fun q hq => ?_⟩⟩
          have s3 : Sm P H (upd H1 l (.lst (strsV L))) := s1.mut hl lP
          refine k _ _ (s3.trans (Sm.new s3.2 hq)) (.tup (.inl (.inl upd_same)) ?_)
          rw [hL]
          exact strs_dp L
end
end K6

set_option Elab.async false
set_option linter.all false
set_option maxRecDepth 100000
set_option maxHeartbeats 4000000
namespace K6
open PySem PySem.Spec PyProof.Rows L2 So SoFr
/-- the place behind, from a place on, so many levels being open -/
def nbF : List PyData → Nat → Int → Option Int
  | [], _, _ => none
  | d :: r, p, l => if l + stpD d = 0 then some ((p : Int) + 1) else nbF r (p + 1) (l + stpD d)
theorem nb_cons {d : PyData} {r : List PyData} {p : Nat} {l : Int} : nbF (d :: r) p l = if l + stpD d = 0 then some ((p : Int) + 1) else nbF r (p + 1) (l + stpD d) := rfl
def isCl (d : PyData) : Bool := match itD d with
  | [a] => isS a "close"
  | _ => false
/-- none: refused -/
def nbD (es : List PyData) : PyData → Option (Option Int)
  | .int n => if 0 ≤ n ∧ n < es.length then (match es[n.toNat]? with
    | some d => if isCl d = true then none else some (nbF (es.drop n.toNat) n.toNat 0)
    | none => none) else none
  | _ => none
theorem eqv_cl {ds : List PyData} : PyData.eqv (.tuple ds) (.tuple [.str "close"]) = isCl (.tuple ds) := by
  cases ds with
  | nil => rfl
  | cons a r => cases r with
    | nil =>
      show (PyData.eqv a (.str "close") && true) = isS a "close"
      rw [eqv_str, Bool.and_true]
    | cons b r =>
      show (PyData.eqv a (.str "close") && false) = false
      rw [Bool.and_false]
theorem tup_tuple {d : PyData} (h : sgnD (tupD d) = true) : ∃ ds, tupD d = .tuple ds := by
  cases d with
  | list ds => exact ⟨ds, rfl⟩
  | tuple ds => exact ⟨ds, rfl⟩
  | _ => exact nomatch (sgn_cons h).1
section
variable {Pg : Program} {w : World} {K : PySem.W.Frag} {mg : Str → Option Value} {base : Heap} {P : Addr}
theorem scNbh : FnScope ["prefix", "at", "signs", "level", "place"] ["prefix", "at"] (defScope sNbh) := ⟨rfl, rfl, rfl, by decide +kernel, rfl, by decide +kernel, by decide +kernel⟩
def spNbh (K : PySem.W.Frag) (P C CR : Addr) : Sp := fun vs H Q E => GxR.TabG H P ∧ ∃ (v u : V) (D U : PyData), vs = [v, u] ∧ Dp K H v D ∧ OkD D ∧ Dp K H u U ∧
  (match prD D with
   | some i => Rs P C H E (.int i)
   | none => match nbD ((itD D).map tupD) U with
     | none => Rs P CR H E u
     | some r => ∀ H', Sm P H H' → Q (oiV r) H')
theorem ok_nbh {f fR fN fM fT C CR fI : Addr} {fd fdR fdN fdM fdT fdI : FuncData} (F : Fun K "node_behind" "node_behind" sNbh f fd) (T : Tx K mg) (B : ErR K mg CR fI fdI) (N : Df K mg "is_number_below" sNub ["value", "bound"] fN fdN) (M : Df K mg "is_number" sNum ["value"] fM fdM)
    (R : Df K mg "check_prefix" sCpf ["value"] fR fdR) (GR : FnOk Pg w K mg base (L2.CX Pg w) 5 fR fdR ["value"] (spCpf K P C)) (S : Df K mg "_step_of" sStp ["sign"] fT fdT) : FnOk Pg w K mg base (L2.CX Pg w) 6 f fd ["prefix", "at"] (spNbh K P C CR) := by
  have GS : FnOk Pg w K mg base CX0 1 fT fdT ["sign"] (spStp K P) := ok_stp S.F
  have GN : FnOk Pg w K mg base CX0 2 fN fdN ["value", "bound"] (spNub K P) := ok_nub N.F T M
  have GI : FnOk Pg w K mg base CX0 1 fI fdI ["self", "at"] (spIni K CR) := ok_iniR B
  refine F.okX scNbh (fun vs H Q E h => ?_) (fun cdv A outer s H vs Q E hr h => ?_)
  · obtain ⟨_, _, _, _, _, rfl, _⟩ := h
    rfl
  · obtain ⟨t, v, u, D, U, rfl, hD, ok, hU, k⟩ := h
    have hu := hr.units
    have hr2 : Room 2 _ := hr.mono (by decide)
    refine ⟨_, pss_cons (ps_set (i := 2) scNbh.nd rfl (Or.inl rfl) (pe_call GR hr (by rfl) R.g R.F.kp R.b .nil (passes_call (takes_of rfl rfl rfl rfl) fun _ _ _ _ h => h) (pa_cons (pv 0) pa_nil)))
      (pss_cons (ps_if (PW.pt (pw_or (pt_not (pt_val (pe_call GN hr2 (by rfl) N.g N.F.kp N.b .nil pass0 (pa_cons (pv 1) (pa_cons (pe_callB call_len_seq (by rfl) T.len (by decide +kernel) (pa_cons (pv 2) pa_nil)) pa_nil)))))
          (pw_or1 (pt_cmpR (op_eqD hu) (pe_ix ix_tup (pv 2) (pv 1) (fun _ _ => rfl)) (pe_tup (pa_cons pe_str pa_nil)) (nomark _)))))
        (pss_one (ps_raise rfl (takes_of rfl rfl rfl rfl) (pmk_oex B.T B.ini B.ty GI hr2 B.b .nil pass0 (by rfl) B.g (pa_cons (pv 1) pa_nil)))) pss_nil)
      (pss_cons (ps_set (i := 3) scNbh.nd rfl (Or.inl rfl) pe_int)
      (pss_cons (ps_for (passes_of rfl) rfl (pi_range2 (by rfl) T.range (pa_cons (pv 1) (pa_cons (pe_callB call_len_seq (by rfl) T.len (by decide +kernel) (pa_cons (pv 2) pa_nil)) pa_nil))) (pg_name (i := 4) scNbh.nd rfl (Or.inl rfl))
        (pss_cons (ps_aug (i := 3) scNbh.nd rfl (.inl rfl) (pe_call GS (hr.mono (by decide)) (by rfl) S.g S.F.kp S.b .nil pass0 (pa_cons (pe_ix ix_tup (pv 2) (pv 4) (fun _ _ => rfl)) pa_nil)) ip_add)
        (pss_one (ps_if (pt_cmpR op_eq (pv 3) pe_int (nomark _)) (pss_one (ps_ret (pe_op op_add (pv 4) pe_int))) pss_nil))))
      (pss_one (ps_ret pe_non))))), ?_⟩
    refine ⟨_, rfl, t, v, D, rfl, hD, ok, ?_⟩
    cases e : prD D with
    | some i =>
      rw [e] at k
      exact k
    | none =>
      rw [e] at k
      obtain ⟨m, hm⟩ := pr_none e
      obtain ⟨pr, _⟩ := rd_pr ok hm
      intro q H1 s1 hq
      have tupl : ∀ d ∈ (itD D).map tupD, ∃ ds, d = .tuple ds := fun d hd => by
        obtain ⟨d0, h0, rfl⟩ := List.mem_map.mp hd
        exact tup_tuple (pr.sg _ hd).1
      cases hq with
      | @tup a xs _ hx hi =>
        have lx := dpa_len hi
        dsimp only at k
        generalize (itD D).map tupD = es at *
        refine ⟨_, rfl, _, rfl, a, xs, rfl, .inr hx, s1.2, _, ⟨u, _, U, rfl, Dp.mono t s1 hU, rfl⟩, fun u1 H2 s2 e2 => ⟨_, e2, ?_⟩⟩
        have s12 := s1.trans s2
        rw [lx]
        have refu : nbD es U = none → Rs P CR H E u := fun z => by
          rw [z] at k
          exact k
        cases hn : nubD (es.length : Nat) U with
        | false =>
          refine iteT ⟨_, rfl, mk_err s12.2 (Rs.later s12 (refu ?_))⟩
          cases U with
          | int n =>
            have h1 : (decide (n ≥ 0) && decide (n < ((es.length : Nat) : Int))) = false := hn
            unfold nbD
            dsimp only
            rw [if_neg]
            rintro ⟨p1, p2⟩
            rw [decide_eq_true (show n ≥ 0 from p1), decide_eq_true p2] at h1
            cases h1
          | _ => rfl
        | true =>
          cases U with
          | none => exact nomatch hn
          | bool _ => exact nomatch hn
          | str _ => exact nomatch hn
          | list _ => exact nomatch hn
          | tuple _ => exact nomatch hn
          | dict _ => exact nomatch hn
          | int n =>
            cases hU
            have h1 : (decide (n ≥ 0) && decide (n < ((es.length : Nat) : Int))) = true := hn
            rw [Bool.and_eq_true, decide_eq_true_eq, decide_eq_true_eq] at h1
            obtain ⟨p1, p2⟩ := h1
            obtain ⟨j, rfl⟩ : ∃ j : Nat, n = (j : Int) := ⟨n.toNat, by omega⟩
            have hj : j < es.length := by omega
            have ej : es[j]? = some es[j] := List.getElem?_eq_getElem hj
            obtain ⟨x, hxj, hxd⟩ := dpa_at' hi ej
            obtain ⟨ds, hds⟩ := tupl es[j] (List.getElem_mem hj)
            obtain ⟨sgj, okj⟩ := pr.sg es[j] (List.getElem_mem hj)
            have hx2 := s2.tup s1.2 hx
            have key : nbD es (.int (j : Int)) = if isCl es[j] = true then none else some (nbF (es.drop j) j 0) := by
              unfold nbD
              dsimp only
              rw [if_pos ⟨p1, p2⟩, show ((j : Int)).toNat = j from rfl, ej]
            refine iteF ⟨_, rfl, _, rfl, a, xs, _, x, rfl, rfl, hx2, atI_nat hxj, (by show 1 ≤ sizeLine; decide), fun c hc => ?_⟩
            have s3 := s12.trans (Sm.new s12.2 hc (o := .tup [.str "close"]))
            have hxd3 := Dp.mono s1.2 (s2.trans (Sm.new s12.2 hc (o := .tup [.str "close"]))) hxd
            rw [hds] at hxd3 okj key
            refine ⟨_, _, hxd3, .tup (.inl (.inl upd_same)) (.cons (.str _) .nil), okj.sh, by decide +kernel, _, rfl, ?_⟩
            rw [eqv_cl]
            refine ite2 (fun q => ⟨_, rfl, mk_err s3.2 (Rs.later s3 (refu (by rw [key, if_pos q])))⟩) (fun q => ?_)
            rw [key, if_neg q] at k
            dsimp only at k
            have hx3 := (s2.trans (Sm.new s12.2 hc (o := .tup [.str "close"]))).tup s1.2 hx
            have hlen := pr.len
            refine ⟨_, rfl, _, rfl, a, xs, rfl, .inr hx3, _, _, rfl, ⟨by omega, by omega, by omega, by omega⟩, ?_⟩
            rw [lx, show (((es.length : Nat) : Int) - (j : Int)).toNat = es.length - j by omega]
            refine for_range (lo := (j : Int)) (n := es.length - j) (fun i σ H' => ∃ (lv : Int) (v4 : Option V), σ = [some v, some (.int (j : Int)), some (.ref a), some (.int lv), v4] ∧ Sm P H1 H' ∧ nbF (es.drop j) j 0 = nbF (es.drop (j + i)) (j + i) lv) ⟨0, none, rfl, s2.trans (Sm.new s12.2 hc), rfl⟩ ?_ ?_
            · rintro i σ H' hi' ⟨lv, v4, rfl, s5, hlv⟩
              have ei : es[j + i]? = some es[j + i] := List.getElem?_eq_getElem (by omega)
              obtain ⟨y, hy, hyd⟩ := dpa_at' hi ei
              obtain ⟨sgi, oki⟩ := pr.sg es[j + i] (List.getElem_mem (by omega))
              rw [drop_at ei, nb_cons] at hlv
              refine ⟨_, rfl, _, rfl, _, rfl, a, xs, _, y, rfl, rfl, s5.tup s1.2 hx, atI_nat (j := j + i) hy, s5.2, _, ⟨y, es[j + i], rfl, Dp.mono s1.2 s5 hyd, oki, sgi, rfl⟩, fun u6 H6 s6 e6 => ?_⟩
              subst e6
              refine ⟨_, _, rfl, rfl, ?_⟩
              refine ⟨_, rfl, rfl, _, rfl, ?_⟩
              rw [dint]
              by_cases z : lv + stpD es[j + i] = 0
              · rw [if_pos z] at hlv
                rw [hlv] at k
                rw [decide_eq_true z]
                exact iteT ⟨_, rfl, _, _, rfl, rfl, k _ (s1.trans (s5.trans s6))⟩
              · rw [if_neg z] at hlv
                rw [decide_eq_false z]
                exact iteF ⟨_, some (.int ((j : Int) + (i : Nat))), rfl, s5.trans s6, hlv⟩
            · rintro σ H' ⟨lv, v4, rfl, s5, hlv⟩
              rw [show j + (es.length - j) = es.length by omega, List.drop_length] at hlv
              rw [hlv] at k
              exact k _ (s1.trans s5)
end
end K6

set_option Elab.async false
set_option linter.all false
set_option maxRecDepth 100000
set_option maxHeartbeats 4000000
/-! functions as values: what they promise, by what they lean on -/
namespace SoC
open PySem PySem.Spec PyProof.Rows L2 LamX NdefX So
/-- what cells hold, by their addresses -/
abbrev CF := Addr → Option Value → Prop
/-- what is tracked -/
abbrev TR := Addr → HO → Prop
def cellsIn (C : CF) (s : Shared) (H : Hp) : Prop := ∀ c v, C c v → H c = none ∧ s.heap.IsCell c v
def trkIn (T : TR) (H : Hp) : Prop := ∀ a o, T a o → H a = some o
def noC : CF := fun _ _ => False
theorem noC_in {s : Shared} {H : Hp} : cellsIn noC s H := fun _ _ z => z.elim
theorem cellsIn.un {C : CF} {s s' : Shared} {H H' : Hp} {fs ex : List Addr} (h : cellsIn C s H) (u : Un fs ex H H' s.heap s'.heap) (hx : ∀ c v, C c v → c ∉ ex) : cellsIn C s' H' := by
  intro c v q
  obtain ⟨n, o, ho, hd⟩ := h c v q
  obtain ⟨sl, e⟩ := u.any ho n (hx c v q)
  exact ⟨u.free c o ho n (hx c v q), _, e, hd⟩
/-- the function at f keeps sp, wherever what it leans on stands -/
def Cal (Pg : Program) (w : World) (K : PySem.W.Frag) (mg : Str → Option Value) (base : Heap) (k : Nat) (C : CF) (T : TR) (f : Addr) (sp : Sp) : Prop :=
  ∀ (A : Around) (outer : List Env) (s : Shared) (H : Hp) (us : List Value) (vs : List V) (Q : VK) (E : XK), Room k A → Env0 Pg w K mg base A outer s H → cellsIn C s H → trkIn T H → Vals vs us → sp vs H Q E →
    codeAny (model Pg w) A (.call (.ref f) ⟨us, []⟩) (CR (L2.CX Pg w) outer Pg w H s Q E) s
section
variable {Pg : Program} {w : World} {K : PySem.W.Frag} {mg : Str → Option Value} {base : Heap} {k j : Nat} {C : CF} {T : TR} {f : Addr} {sp sp' : Sp}
theorem Cal.mono (c : Cal Pg w K mg base j C T f sp) (h : j ≤ k) : Cal Pg w K mg base k C T f sp := fun A outer s H us vs Q E hr => c A outer s H us vs Q E (hr.mono h)
theorem Cal.imp (c : Cal Pg w K mg base k C T f sp) (h : ∀ vs H Q E, trkIn T H → sp' vs H Q E → sp vs H Q E) : Cal Pg w K mg base k C T f sp' := fun A outer s H us vs Q E hr e0 hc ht r q => c A outer s H us vs Q E hr e0 hc ht r (h vs H Q E ht q)
end
/-- a lambda stands at f: its words, its cells, its code -/
def LmO (f : Addr) (F : NF) (body : Expr) : HO := .ext fun h => ∃ pm ctv : Value, h.get? f = some (PySem.W.kla_obj "<lambda>" F.qual F.params body F.scope F.cl pm F.c ctv)
theorem lmO_ne {f : Addr} {F : NF} {b : Expr} (u : HO) (n : ∀ φ, u ≠ .ext φ) : LmO f F b ≠ u := fun z => n _ z.symm
/-- something that is called stands at f -/
def FnK (H : Hp) (f : Addr) : Prop := ∃ φ : Heap → Prop, H f = some (.ext φ) ∧ ∀ h, φ h → PySem.W.FnAt f h
theorem FnK.at {Pg : Program} {w : World} {H : Hp} {h : Heap} {f : Addr} (x : FnK H f) (hok : HOk Pg w H h) : PySem.W.FnAt f h := by
  obtain ⟨φ, e, q⟩ := x
  obtain ⟨z, _, _⟩ := hok f _ e
  exact q h z
theorem fnK_lm {H : Hp} {f : Addr} {F : NF} {b : Expr} (e : H f = some (LmO f F b)) : FnK H f := ⟨_, e, fun h ⟨pm, ctv, z⟩ => ⟨_, _, _, _, z⟩⟩
/-- a lambda by its body -/
theorem cal_lam {Pg : Program} {w : World} {K : PySem.W.Frag} {mg : Str → Option Value} {base : Heap} {k : Nat} {C : CF} {T : TR} {f : Addr} {sp : Sp} {F : NF} {body : Expr} {N ps fr : List Str} {ws : List (Option V)} (S : NScope N ps fr F.scope)
    (hb : ∀ (pm ctv : Value) (us : List Value), us.length = ps.length → bindArgs (PySem.W.kla_fn "<lambda>" F.qual F.params body F.scope F.cl pm (.ref F.c) ctv) ⟨us, []⟩ = pure (ps.zip us)) (len : ∀ vs H Q E, sp vs H Q E → vs.length = ps.length)
    (t1 : T f (LmO f F body)) (t2 : T F.c (CodeO F.c F.qual)) (hcl : ∀ (s : Shared) (H : Hp), cellsIn C s H → CellsAt F.cl fr ws s.heap H)
    (hbody : ∀ (A : Around) (outer : List Env) (s : Shared) (H : Hp) (vs : List V) (Q : VK) (E : XK), Room k (A.deeper (envF F f s.heap.objs.size)) → cellsIn C s H → trkIn T H → sp vs H Q E →
      ∃ t, PE (ncx (L2.CX Pg w) Pg w K mg base N F f A outer s H E) body t ∧ t (startF N vs ws) H Q) :
    Cal Pg w K mg base (k + 1) C T f sp := by
  intro A outer s H us vs Q E hr e0 hc ht r hsp
  have hl := len _ _ _ _ hsp
  have lim : s.heap.NoLimit := e0.mod.nolimit.keeps fun b o e => (e0.bs b o e).1
  obtain ⟨⟨pm, ctv, ho⟩, _, _⟩ := e0.hok f _ (ht f _ t1)
  obtain ⟨⟨oc, wv, tk, c1, c2, c3⟩, _, _⟩ := e0.hok F.c _ (ht F.c _ t2)
  refine PySem.W.kla_callFunE hr.depth ho rfl S.co S.gen rfl ⟨F.c, oc, wv, tk, rfl, c1, c2, c3⟩ ?_
  rw [hb pm ctv us (r.length.symm.trans hl)]
  refine wpAny_pure (wpAny_newFunctionEnv S.nocell (fun y hy => S.par y.1 (List.of_mem_zip hy).1) (fun h1 hns hsb => ⟨lim.fresh _ hsb, ?_⟩) S.kind)
  have kp : ∀ b o, s.heap.get? b = some o → h1.get? b = some o := fun b o e => hsb.extBut b o (Nat.ne_of_lt (Heap.lt_size e)) (Heap.get?_push_of_some _ e)
  obtain ⟨t, ht', hq⟩ := hbody A outer s H vs Q E (hr.deeper _) hc ht hsp
  have I := inv_startN (CX := L2.CX Pg w) (E := E) (f := f) (tk := s.toks + (ps.zip us).length) S hr.hd e0 hl r (hcl s H hc) hns kp
  refine PySem.W.kla_codeExpr (wpAny_mono (ht'.run [] _ _ H Q I hq) (fun v s' h => ?_) fun e s' h => h)
  obtain ⟨v', H', J, rv, q⟩ := h
  exact ⟨v', H', J.os, J.bare, J.base, J.hok, rv, q⟩
/-! ### calls of what a name holds -/
section
variable {X : Cx} {k j i : Nat} {C : CF} {T : TR} {f : Addr} {sp : Sp} {E : XK} {t : TA} {x : Str} {e : Expr} {es : List Expr} {p pos : Pos}
def tCal (i : Nat) (f : Addr) (T : TR) (sp : Sp) (E : XK) (t : TA) : TE := fun σ H Q => σ[i]? = some (some (.ref f)) ∧ FnK H f ∧ t σ H fun vs H1 => FnK H1 f ∧ trkIn T H1 ∧ sp vs H1 Q E
theorem cal_fin {pins : List (Addr × Obj)} {σ : L2.St} {H : Hp} {s : Shared} {Q : VK} {us : List Value} {vs : List V} (c : Cal X.prog X.w X.K X.mg X.base k C T f sp) (hr : Room j X.A) (hk : k ≤ j) (hx : Passes (L2.CX X.prog X.w) X E) (I : Inv X pins σ H s) (hc : cellsIn C s H) (ht : trkIn T H) (r : Vals vs us) (q : sp vs H Q E) :
    wpAny (model X.prog X.w) X.A (call (.ref f) us) (EP X pins σ Q) X.xe s := by
  refine wpAny_call (codeAny_mono (c X.A X.stack s H us vs Q E (hr.mono hk) I.env0 hc ht r q) fun z s' hq => ?_)
  match z, hq with
  | .error e, hq => exact hx pins σ H s e s' I hq
  | .ok (.ret u), hq => exact I.after hq
theorem pe_cal (c : Cal X.prog X.w X.K X.mg X.base k C T f sp) (hc : cellsIn C X.s_0 X.H_0) (hcx : ∀ a v, C a v → a ∉ X.ex) (hr : Room j X.A) (hk : k ≤ j) (hx : Passes (L2.CX X.prog X.w) X E) (hN : X.N[i]? = some x) (hv : Vis X.env.scope x) (ha : PA X (e :: es) t)
    (hd : (x == ("__debug__" : Str)) = false := by decide) (hcd : (x == ("__classdict__" : Str)) = false := by decide)
    (he : starEach (e :: es) X.env = (false, eval e X.env) :: starEach es X.env := by rfl) (hpl : (backTo pos (starEach es X.env)).any (·.1) = false := by rfl) : PE X (.Call (.Name x p) (e :: es) [] pos) (tCal i f T sp E t) := by
  refine ⟨fun pins s σ H Q I h => ?_⟩
  obtain ⟨hs, hf, hq⟩ := h
  refine wpAny_Call_Name_kw (thn ((pe_var (pos := p) hN hv hd hcd).run pins s σ H (fun v H1 => v = .ref f ∧ H1 = H) I ⟨.ref f, hs, rfl, rfl⟩) fun u s1 ⟨v, H1, I1, r1, q1⟩ => ?_)
  obtain ⟨rfl, rfl⟩ := q1
  obtain rfl : u = Value.ref f := r1
  refine PySem.W.callWith_F (first := []) (hf.at I1.hok) (thn (ha.run pos pins s1 σ _ _ I1 hq) fun us s2 ⟨vs, H2, I2, r, g1, g2, q⟩ => ⟨g1.at I2.hok, ?_⟩) he hpl
  show wpAny _ _ (call (.ref f) us) _ _ _
  exact cal_fin c hr hk hx I2 (hc.un I2.base hcx) g2 r q
theorem pe_cal0 (c : Cal X.prog X.w X.K X.mg X.base k C T f sp) (hc : cellsIn C X.s_0 X.H_0) (hcx : ∀ a v, C a v → a ∉ X.ex) (hr : Room j X.A) (hk : k ≤ j) (hx : Passes (L2.CX X.prog X.w) X E) (hN : X.N[i]? = some x) (hv : Vis X.env.scope x)
    (hd : (x == ("__debug__" : Str)) = false := by decide) (hcd : (x == ("__classdict__" : Str)) = false := by decide) : PE X (.Call (.Name x p) [] [] pos) (tCal i f T sp E tNil) := by
  refine ⟨fun pins s σ H Q I h => ?_⟩
  obtain ⟨hs, hf, g1, g2, q⟩ := h
  refine wpAny_Call_Name_kw (thn ((pe_var (pos := p) hN hv hd hcd).run pins s σ H (fun v H1 => v = .ref f ∧ H1 = H) I ⟨.ref f, hs, rfl, rfl⟩) fun u s1 ⟨v, H1, I1, r1, q1⟩ => ?_)
  obtain ⟨rfl, rfl⟩ := q1
  obtain rfl : u = Value.ref f := r1
  refine PySem.W.callWith_F0 (first := []) (hf.at I1.hok) ?_
  show wpAny _ _ (call (.ref f) []) _ _ _
  exact cal_fin c hr hk hx I1 (hc.un I1.base hcx) g2 .nil q
end
end SoC

set_option Elab.async false
set_option linter.all false
set_option maxRecDepth 100000
set_option maxHeartbeats 4000000
namespace SoC
open PySem PySem.Spec PyProof.Rows L2 LamX NdefX So
/-! ### a lambda is made -/
/-- the words of a lambda of the running def, its code at c -/
abbrev lamF (X : Cx) (params : Arguments) (scope : Scope) (c : Addr) : NF := ⟨"<lambda>", X.env.qual ++ "<lambda>", params, [], scope, cloFrom X.env.cells scope.names [], c⟩
/-- what a lambda's making asks and gives -/
def tLamO (P : Addr) (L : List (Addr × Str)) (mk : Addr → NF) (body : Expr) : TE := fun _ H Q => Tabs L H ∧ ∀ (f c : Addr) (H1 : Hp), (∀ b o, b ≠ P → H b = some o → H1 b = some o) → ExtN H H1 → (∀ b, H1 b = none → H b = none) → Tabs L H1 → H f = none → H1 f = some (LmO f (mk c) body) → H1 c = some (CodeO c (mk c).qual) → Q (.ref f) H1
theorem tabs_ne {L : List (Addr × Str)} {H H' : Hp} (t : Tabs L H) (e : ∀ b o, H b = some o → H' b = some o) : Tabs L H' := t.ext e
section
variable {X : Cx} {pins : List (Addr × Obj)} {σ : L2.St} {H : Hp} {s : Shared}
theorem lay_lam {F : NF} {body : Expr} {pm ctv : Value} {h' : Heap} {t1 t2 : Nat} (I : Inv X pins σ H { s with heap := h', toks := t1 }) :
    Inv X pins σ (upd H h'.objs.size (LmO h'.objs.size F body)) { s with heap := h'.push (PySem.W.kla_obj "<lambda>" F.qual F.params body F.scope F.cl pm F.c ctv), toks := t2 } := by
  have q := Heap.get?_push_size h' (o := PySem.W.kla_obj "<lambda>" F.qual F.params body F.scope F.cl pm F.c ctv) rfl
  exact I.laid (a := h'.objs.size) (t' := t2) (fun b u e => Heap.get?_push_of_some _ e) (Nat.le_refl _) ⟨⟨pm, ctv, q⟩, ⟨_, q⟩, fun g1 g2 ⟨pm, ctv, z⟩ st => ⟨pm, ctv, st _ z⟩⟩
theorem upd_no {a b : Addr} {o : HO} (e : upd H a o b = none) : H b = none := by
  by_cases q : b = a
  · rw [q, upd_same] at e
    cases e
  · rwa [upd_ne q] at e
end
section
variable {X : Cx}
theorem pe_lam {L : List (Addr × Str)} {c P : Addr} {params : Arguments} {body : Expr} {scope : Scope} {pos : Pos} (TB : TabB X.base X.mg c P) (hcode : X.env.code = .ref c) (hm : (P, X.env.qual ++ "<lambda>") ∈ L) (hu : ∀ p ∈ L, p.1 = P → p.2 = X.env.qual ++ "<lambda>")
    (hfree : ∀ y ∈ scope.names, y.2 = .free → X.env.scope.names.lookup y.1 = some .cell ∨ X.env.scope.names.lookup y.1 = some .free) (hdef : defaultsOf params X.env = ([], [])) : PE X (.Lambda params body scope pos) (tLamO P L (lamF X params scope) body) := by
  refine ⟨fun pins s σ H Q I hw => PySem.W.kla_eval hdef ?_⟩
  have hT := hw.1
  have k := hw.2
  obtain ⟨ps, tP, tps, tc⟩ := hT _ hm
  have tP' : s.heap.get? P = some { cls := .none, data := .fields ps } := I.hok P _ tP
  have cl : closureFor scope X.env = pure (cloFrom X.env.cells scope.names []) := closure_ok fun y hy e => (hfree y hy e).elim (fun z => I.ok.has _ (.inl z)) fun z => I.ok.has _ (.inr z)
  have fin : ∀ {c' : Addr} {pm ctv : Value} {H1 : Hp} {h' : Heap} {t1 t2 : Nat}, Inv X pins σ H1 { s with heap := h', toks := t1 } → s.heap.objs.size ≤ h'.objs.size → (∀ b o, b ≠ P → H b = some o → H1 b = some o) → ExtN H H1 → (∀ b, H1 b = none → H b = none) → Tabs L H1 → H1 c' = some (CodeO c' (X.env.qual ++ "<lambda>")) →
      EP X pins σ Q (.ref h'.objs.size) { s with heap := h'.push (PySem.W.kla_obj "<lambda>" (X.env.qual ++ "<lambda>") params body scope (cloFrom X.env.cells scope.names []) pm c' ctv), toks := t2 } := by
    intro c' pm ctv H1 h' t1 t2 J hs eP eN hn hTs hc
    have f0 : H1 h'.objs.size = none := J.hok.fresh (Nat.le_refl _)
    have sm : ∀ b o, H1 b = some o → upd H1 h'.objs.size (LmO h'.objs.size (lamF X params scope c') body) b = some o := fun b o e => by
      rw [upd_ne (ne_of_none e f0)]
      exact e
    refine ⟨.ref h'.objs.size, _, lay_lam (F := lamF X params scope c') (body := body) (pm := pm) (ctv := ctv) (t2 := t2) J, rfl, k _ c' _ (fun b o n e => sm b o (eP b o n e)) (fun b o e n => sm b o (eN b o e n)) (fun b e => hn b (upd_no e)) (hTs.ext sm) (I.hok.fresh hs) upd_same (sm _ _ hc)⟩
  cases hc : codeAmong pos ps.toList with
  | some cv =>
    obtain ⟨c', rfl, hco⟩ := tc pos cv hc
    refine PySem.W.kla_makeFunctionHit (mg := X.mg) (c := c) (P := P) (ps := ps) cl I.ok.glob (I.mod.glob.keeps I.bk) hcode (TB.code.keeps I.bk) tP' tps hc (TB.bm.keeps I.bk) fun ctv h' tk kp hs => ?_
    exact fin (t1 := tk) (I.kept kp) hs (fun _ _ _ e => e) (ExtN.refl H) (fun _ e => e) hT hco
  | none =>
    refine PySem.W.kla_makeFunction (mg := X.mg) (c := c) (P := P) (ps := ps) cl I.ok.glob (I.mod.glob.keeps I.bk) hcode (TB.code.keeps I.bk) tP' tps hc TB.gP (TB.bm.keeps I.bk) fun c' ctv h' tk kp hge hlt hrec htb => ?_
    obtain ⟨c2, oc, vs, t, e2, hoc, hd, hv⟩ := hrec
    cases e2
    have nC : H c' = none := I.hok.fresh hge
    have nPC : P ≠ c' := ne_of_none tP nC
    have J := inv_table (t' := tk) (more := #[rawInt pos.line, rawInt pos.col, .ref c']) (h' := h') I tP (fun b o hb e => kp b o hb e) htb hge ⟨oc, vs, t, hoc, hd, hv⟩
    have keepO : ∀ b o, b ≠ P → H b = some o → upd (upd H P (.tbl (ps ++ #[rawInt pos.line, rawInt pos.col, .ref c']))) c' (CodeO c' (X.env.qual ++ "<lambda>")) b = some o := fun b o hb e => by
      rw [upd_ne (ne_of_none e nC), upd_ne hb]
      exact e
    have codeK : ∀ d q, H d = some (CodeO d q) → upd (upd H P (.tbl (ps ++ #[rawInt pos.line, rawInt pos.col, .ref c']))) c' (CodeO c' (X.env.qual ++ "<lambda>")) d = some (CodeO d q) := fun d q e =>
      keepO d _ (fun z => by
        rw [z, tP] at e
        exact codeO_ne ps (Option.some.inj e).symm) e
    refine fin (t1 := tk) J (Nat.le_trans hge (Nat.le_of_lt hlt)) keepO (fun b o e n => keepO b o (fun z => by
      rw [z, tP] at e
      exact n ps (Option.some.inj e).symm) e) (fun b e => upd_no (upd_no e)) (fun p hp => ?_) upd_same
    by_cases hb : p.1 = P
    · rw [hu p hp hb, hb]
      refine ⟨ps ++ #[rawInt pos.line, rawInt pos.col, .ref c'], by rw [upd_ne nPC, upd_same], by rw [Array.toList_append]; exact PySem.TriplesOk_snoc _ _ _ _ tps, fun p' cv hcv => ?_⟩
      rw [Array.toList_append] at hcv
      rcases among_app _ tps hcv with z | z
      · obtain ⟨d, e1, e3⟩ := tc p' cv z
        exact ⟨d, e1, codeK d _ e3⟩
      · exact ⟨c', z, upd_same⟩
    · obtain ⟨qs, a1, a2, a3⟩ := hT p hp
      refine ⟨qs, keepO _ _ hb a1, a2, fun p' cv hcv => ?_⟩
      obtain ⟨d, e1, e3⟩ := a3 p' cv hcv
      exact ⟨d, e1, codeK d _ e3⟩
end
/-! ### what a running def's cells hold -/
/-- the contents of a function's cells, at s -/
def cfAt (cl : List (Str × Addr)) (s : Shared) : CF := fun c v => (∃ y, cl.lookup y = some c) ∧ s.heap.IsCell c v
theorem cell_one {h : Heap} {c : Addr} {v u : Option Value} (a : h.IsCell c v) (b : h.IsCell c u) : v = u := by
  obtain ⟨o, e1, e2⟩ := a
  obtain ⟨o', e3, e4⟩ := b
  rw [e1] at e3
  cases e3
  rw [e2] at e4
  cases e4
  rfl
section
variable {X : Cx} {pins : List (Addr × Obj)} {σ : L2.St} {H : Hp} {s : Shared} {cl : List (Str × Addr)} {fr : List Str} {js : List Nat}
theorem cf_in (I : Inv X pins σ H s) (cp : Caps X cl fr js) : cellsIn (cfAt cl s) s H := fun c v ⟨⟨y, e⟩, z⟩ => ⟨I.freeC y c (cp.sub y c e), z⟩
theorem cf_cells (I : Inv X pins σ H s) (cp : Caps X cl fr js) {s' : Shared} {H' : Hp} (h : cellsIn (cfAt cl s) s' H') : CellsAt cl fr (js.map (slotAt σ)) s'.heap H' := by
  have q := cells_of I cp
  refine ⟨q.len, fun y c e => ?_, q.inj, fun i y e => ?_⟩
  · obtain ⟨_, v, z⟩ := q.all y c e
    obtain ⟨n, z'⟩ := h c v ⟨⟨y, e⟩, z⟩
    exact ⟨n, v, z'⟩
  · obtain ⟨c, hc, r⟩ := q.has i y e
    refine ⟨c, hc, fun v ev => ?_⟩
    obtain ⟨u, ru, z⟩ := r v ev
    exact ⟨u, ru, (h c _ ⟨⟨y, hc⟩, z⟩).2⟩
end
end SoC

set_option Elab.async false
set_option linter.all false
set_option maxRecDepth 100000
set_option maxHeartbeats 4000000
namespace SoC
open PySem PySem.Spec PyProof.Rows L2 LamX NdefX So
/-! ### defs that are promised of the very state in which they are called -/
structure FnS (Pg : Program) (w : World) (K : PySem.W.Frag) (mg : Str → Option Value) (base : Heap) (CX : CXT) (k : Nat) (f : Addr) (fd : FuncData) (ps : List Str) (sp : Shared → Sp) : Prop where
  len : ∀ s vs H Q E, sp s vs H Q E → vs.length = ps.length
  run : ∀ (A : Around) (outer : List Env) (s : Shared) (H : Hp) (args : Args) (us : List Value) (vs : List V) (Q : VK) (E : XK), Room k A → A.guards = some [] → Env0 Pg w K mg base A outer s H → BindsTo s fd args (ps.zip us) → Vals vs us → sp s vs H Q E →
    codeAny (model Pg w) A (.call (.ref f) args) (CR CX outer Pg w H s Q E) s
section
variable {Pg : Program} {w : World} {K : PySem.W.Frag} {mg : Str → Option Value} {base : Heap} {CX : CXT}
theorem FnS.of {k : Nat} {f : Addr} {fd : FuncData} {ps : List Str} {sp : Sp} (F : FnOk Pg w K mg base CX k f fd ps sp) : FnS Pg w K mg base CX k f fd ps (fun _ => sp) :=
  ⟨fun _ vs H Q E h => F.len vs H Q E h, fun A outer s H args us vs Q E hr _ e0 hb r h => F.run A outer s H args us vs Q E hr e0 hb r h⟩
theorem FnS.imp {k : Nat} {f : Addr} {fd : FuncData} {ps : List Str} {sp sp' : Shared → Sp} (F : FnS Pg w K mg base CX k f fd ps sp) (h : ∀ s vs H Q E, sp' s vs H Q E → sp s vs H Q E) : FnS Pg w K mg base CX k f fd ps sp' :=
  ⟨fun s vs H Q E q => F.len s vs H Q E (h s vs H Q E q), fun A outer s H args us vs Q E hr hg e0 hb r q => F.run A outer s H args us vs Q E hr hg e0 hb r (h s vs H Q E q)⟩
theorem okS {x : Str} {st : Stmt} {f : Addr} {fd : FuncData} {N ps : List Str} {k : Nat} {sp : Shared → Sp} (F : Fun K x x st f fd) (S : FnScope N ps (defScope st)) (len : ∀ s vs H Q E, sp s vs H Q E → vs.length = ps.length)
    (body : ∀ (cd : Value) (A : Around) (outer : List Env) (s : Shared) (H : Hp) (vs : List V) (Q : VK) (E : XK), Room k (A.deeper (envOfC x (defScope st) s.heap.objs.size f cd)) → (A.deeper (envOfC x (defScope st) s.heap.objs.size f cd)).guards = some [] → sp s vs H Q E →
      ∃ t, PSs (cxOf CX Pg w K mg base N x (defScope st) f cd A outer s H E) (defBody st) t ∧ t { nx := fun _ H' => Q .non H', rt := Q } (start N vs) H) : FnS Pg w K mg base CX (k + 1) f fd ps sp := by
  obtain ⟨oc, od, kV, doc, pm, an, cd, ct, osl, rfl, lk, hcd⟩ := F.ex
  exact ⟨len, fun A outer s H args us vs Q E hr hg e0 hb r hsp => run_ofS lk hcd S hr e0 hb r (len _ _ _ _ _ hsp) fun hr' => body cd A outer s H vs Q E hr' hg hsp⟩
/-- .. whose code object is known -/
theorem okC {x : Str} {st : Stmt} {f c : Addr} {fd : FuncData} {N ps : List Str} {k : Nat} {sp : Shared → Sp} (F : DfC K mg x st ps f fd c) (S : FnScope N ps (defScope st)) (len : ∀ s vs H Q E, sp s vs H Q E → vs.length = ps.length)
    (body : ∀ (A : Around) (outer : List Env) (s : Shared) (H : Hp) (vs : List V) (Q : VK) (E : XK), Room k (A.deeper (envOfC x (defScope st) s.heap.objs.size f (.ref c))) → (A.deeper (envOfC x (defScope st) s.heap.objs.size f (.ref c))).guards = some [] → sp s vs H Q E →
      ∃ t, PSs (cxOf CX Pg w K mg base N x (defScope st) f (.ref c) A outer s H E) (defBody st) t ∧ t { nx := fun _ H' => Q .non H', rt := Q } (start N vs) H) : FnS Pg w K mg base CX (k + 1) f fd ps sp := by
  obtain ⟨oc, od, kV, doc, pm, an, ct, osl, rfl, lk, hcd⟩ := F.ex
  exact ⟨len, fun A outer s H args us vs Q E hr hg e0 hb r hsp => run_ofS lk hcd S hr e0 hb r (len _ _ _ _ _ hsp) fun hr' => body A outer s H vs Q E hr' hg hsp⟩
end
section
variable {X : Cx} {CX : CXT} {k j : Nat} {f : Addr} {fd : FuncData} {ps : List Str} {sp : Shared → Sp} {E : XK} {x : Str} {p pos : Pos} {e : Expr} {es : List Expr} {t : TA} {pre : L2.St → List V → Hp → VK → Prop}
def tCallF (pre : L2.St → List V → Hp → VK → Prop) (t : TA) : TE := fun σ H Q => t σ H fun vs H1 => pre σ vs H1 Q
/-- f(..): the promise is made of what the running def knows of its state -/
theorem pe_callF (F : FnS X.prog X.w X.K X.mg X.base CX k f fd ps sp) (hgd : X.A.guards = some []) (hr : Room j X.A) (hk : k ≤ j) (hg : Gl X x) (hm : X.mg x = some (.ref f)) (hkp : PySem.W.keepIn X.K (.ref f) = true) (hb : Binds X.K fd ps []) (hx : Passes CX X E)
    (hpre : ∀ (pins : List (Addr × Obj)) (σ : L2.St) (H : Hp) (s : Shared) (vs : List V) (Q : VK), Inv X pins σ H s → pre σ vs H Q → sp s vs H Q E) (ha : PA X (e :: es) t)
    (hdb : (x == ("__debug__" : Str)) = false := by decide) (he : starEach (e :: es) X.env = (false, eval e X.env) :: starEach es X.env := by rfl) (hpl : (backTo pos (starEach es X.env)).any (·.1) = false := by rfl) :
    PE X (.Call (.Name x p) (e :: es) [] pos) (tCallF pre t) := by
  refine ⟨fun pins s σ H Q I h => wpAny_Call_Name_kw (ld_glob I hg hm ?_ hdb)⟩
  refine PySem.W.callWith_K (h₀ := X.base) I.ok.mod.kin hkp ?_ he hpl
  refine thn (ha.run pos pins s σ H _ I h) fun us s1 ⟨vs, H1, J, r, q⟩ => ⟨J.kIn, ?_⟩
  have q' := hpre pins σ H1 s1 vs Q J q
  have hl : us.length = ps.length := r.length.symm.trans (F.len _ _ _ _ _ q')
  have B := hb s1 us J.kIn (by rw [List.append_nil]; exact hl)
  rw [List.append_nil] at B
  refine wpAny_call (codeAny_mono (F.run X.A X.stack s1 H1 ⟨us, []⟩ us vs Q E (hr.mono hk) hgd J.env0 B r q') fun z s' hq => ?_)
  match z, hq with
  | .error e, hq => exact hx pins σ H1 s1 e s' J hq
  | .ok (.ret u), hq => exact J.after hq
end
end SoC

set_option Elab.async false
set_option linter.all false
set_option maxRecDepth 100000
set_option maxHeartbeats 4000000
namespace SoC
open PySem PySem.Spec PyProof.Rows L2 LamX NdefX So
/-! ### a caught error that has a dict: whose instance it is -/
structure IsC (K : PySem.W.Frag) (D : Addr) : Prop where
  cl : (PySem.W.clsIn K D).isSome = true
  ga : PySem.W.findIn K (.ref D) "__getattribute__" = some (some (.builtin "BaseException.__getattribute__"))
  gg : PySem.W.findIn K (.ref D) "__getattr__" = some none
  be : PySem.W.subIn K (.ref D) (.type "BaseException") = some true
  ca : PySem.W.findIn K (.ref D) "__class__" = some (some (.builtin "object.__class__"))
  cg : PySem.W.specialIn K (.builtin "object.__class__") "__get__" = some (some (.builtin "getset_descriptor.__get__"))
  ct : PySem.W.takesIn K (.builtin "object.__class__") = some true
  mo : PySem.W.mroIn K D (.type "object") = some true
def rIsD (K : PySem.W.Frag) (a : Addr) (cls : Value) (d : Option Addr) : List V → Hp → VK → Prop := fun xs H Q => ∃ (D O dd : Addr) (fs : List (Str × V)) (b : Bool), xs = [.ref a, .ref O] ∧ cls = .ref D ∧ d = some dd ∧ IsC K D ∧ H dd = some (.xd fs) ∧ PySem.W.kitOne K (.ref D) (.ref O) = some b ∧ Q (.bl b) H
theorem call_isD {X : Cx} {a : Addr} {oe : Obj} {cls : Value} {d : Option Addr} {pn : List (Addr × Obj)} (hz : Zc cls d oe) (hf : ∃ vs, oe.data = .fields vs) : CallR (X.suite a ((a, oe) :: pn)) (.builtin "isinstance") (rIsD X.K a cls d) := by
  intro pins s σ H xs us Q I r h
  obtain ⟨D, O, dd, fs, b, rfl, rfl, rfl, C, hx, e, q⟩ := h
  match us, r with
  | [u1, u2], .cons r1 (.cons r2 .nil) =>
    obtain rfl : u1 = Value.ref a := r1
    obtain rfl : u2 = Value.ref O := r2
    have get := (I.pin (a, oe) (List.mem_append_left _ List.mem_cons_self)).1
    obtain ⟨mA, ns, _⟩ := (show ∃ mA, s.heap.Ns1 dd mA ∧ ∀ f, RelO (fs.lookup f) (mA f) from I.hok dd _ hx)
    obtain ⟨od, ho, _⟩ := lookIn_ns ns
    obtain ⟨vs, hv⟩ := hf
    have J : PySem.W.InstAt s.heap a oe D (some od) := by
      refine ⟨get, hz.1, ?_, ?_⟩
      · unfold PySem.W.notCls
        rw [hv] <;> rfl
      · rw [hz.2]
        exact ho
    exact PySem.W.kia_one (PySem.W.kitx_exc C.cl C.ga C.gg C.be C.ca C.cg C.ct C.mo) I.kIn J e (fun z => nomatch z) fun tk => ⟨.bl b, H, I.tok tk, rfl, q⟩
/-! ### several except clauses, each with a name -/
/-- a clause: its class, its name's slot, its suite's reading -/
abbrev Cls := Value × Nat × (Addr → Value → Option Addr → TS)
/-- all ends of a suite forget the name -/
def offN (i : Nat) (D : Ends) : Ends := { nx := fun σ H => D.nx (σ.set i none) H, rt := D.rt, bk := fun σ H => D.bk (σ.set i none) H, ct := fun σ H => D.ct (σ.set i none) H }
def wEach (K : PySem.W.Frag) (out : WX) (D : Ends) : List Cls → WX
  | [] => out
  | (c, i, ts) :: r => fun cls d σ H => ∃ b, PySem.W.exmOne K cls c = some b ∧ (b = true → ∀ a, H a = none → ts a cls d (offN i D) (σ.set i (some (.ref a))) H) ∧ (b = false → wEach K out D r cls d σ H)
inductive Clauses (X : Cx) : List ExceptHandler → List Cls → Prop
  | none : Clauses X [] []
  | more {x n : Str} {c : Value} {i : Nat} {ts : Addr → Value → Option Addr → TS} {st : Stmt} {sts : List Stmt} {np p : Pos} {hs : List ExceptHandler} {cs : List Cls} (hx : Names X x c) (hi : X.N[i]? = some n) (hl : X.env.kindOf n = some .local)
      (suite : ∀ (a : Addr) (oe : Obj) (cls : Value) (d : Option Addr) (pn : List (Addr × Obj)), Zc cls d oe → (∃ vs, oe.data = .fields vs) → PSs (X.suite a ((a, oe) :: pn)) (st :: sts) (ts a cls d)) (rest : Clauses X hs cs) :
      Clauses X (.ExceptHandler (some (.Name x np)) (some n) (st :: sts) p :: hs) ((c, i, ts) :: cs)
section
variable {X : Cx} {body : List Stmt} {h0 : ExceptHandler} {hds : List ExceptHandler} {cs : List Cls} {pos : Pos} {tb : WX → TS} {out : WX}
theorem ps_tryEach (hs : X.stack = X.env :: X.outer) (hf : X.env.frame = some X.env.locals) (hN : X.N.Nodup) (tk : Takes X out)
    (hb : ∀ (W : WX) (pn : List (Addr × Obj)) (xe : Value → Shared → Prop), Takes (X.tr pn xe) W → PassesOwn (model X.prog X.w) X.A X.env xe → PSs (X.tr pn xe) body (tb W)) (hh : Clauses X (h0 :: hds) cs) :
    PS X (.Try body (h0 :: hds) [] [] pos) (fun D σ H => tb (wEach X.K out D cs) D σ H) := by
  constructor
  intro pins s σ H D I h
  have okX := I.ok
  have fr : X.A.frames = some (X.env :: X.outer) := okX.frames.trans (congrArg some hs)
  -- what is done with an error: the clauses, from the first on
  let wish : Value → Shared → Prop := fun e s1 => wpAny (model X.prog X.w) X.A (noteFrame e X.env) (fun _ s2 => wpAny (model X.prog X.w) X.A (setFlight e none) (fun _ s3 => wpAny (model X.prog X.w) X.A (handleBy e X.env (h0 :: hds)) (SP X pins D) X.xe s3) X.xe s2) X.xe s1
  have caught : Takes (X.tr (X.pn ++ pins) wish) (wEach X.K out D cs) := by
    rintro u s' ⟨a, B, sI, pins', σ1, H1, cls, d, rfl, J1, nb, up, sky, na, os, ag, w⟩
    have J := J1.ofTry okX
    refine Sky.land Zc.steady fr hf (hs ▸ sky) fun g3 fl3 up3 => ?_
    have J3 : Inv X pins σ1 H1 { s' with heap := g3 } := J.landed nb fl3.1 (up.trans up3) os ag
    obtain ⟨o3, ws, get3, z3, dat3⟩ := fl3.there
    have out1 : a ∉ frs (X.env :: X.outer) := by
      intro m
      obtain ⟨_, o, e, no⟩ := (fl3.2.2.1).mem m
      cases get3.symm.trans e
      exact no _ dat3
    have aL : a ≠ X.env.locals := by
      rintro rfl
      exact out1 (List.mem_filterMap.mpr ⟨X.env, .head _, hf⟩)
    have aF : a ∉ X.fs := by
      intro m
      obtain ⟨v, hv, q⟩ := List.mem_filterMap.mp m
      exact out1 (List.mem_filterMap.mpr ⟨v, .tail _ hv, q⟩)
    have K3 := J3.suite get3 dat3 na aL aF
    suffices go : ∀ {l : List ExceptHandler} {m : List Cls}, Clauses X l m → wEach X.K out D m cls d σ1 H1 → wpAny (model X.prog X.w) X.A (handleBy (.ref a) X.env l) (SP X pins D) X.xe { s' with heap := g3 } from go hh w
    intro l m hc
    induction hc with
    | none =>
      intro hw
      refine wpAny_handleBy_nil ?_
      have fl := fl3
      obtain ⟨_, _, _, o, vs, T, _, _, e, _, dt, at1, _⟩ := fl
      unfold PySem.passOn
      refine wpAny_bind (wpAny_field e dt at1 ?_)
      have nn : ¬ (Value.ref T == Value.none) = true := by simp
      rw [if_neg nn]
      have last : wpAny (model X.prog X.w) X.A (setFlight (.ref a) X.env.frame) (fun _ s4 => wpAny (model X.prog X.w) X.A (throw (.ref a) : Sem Flow) (SP X pins D) X.xe s4) X.xe { s' with heap := g3 } := by
        rw [hf]
        exact HandSPX.setFlight_upZ fl3 fun g4 hh4 up4 => wpAny_throw (tk _ _ ⟨a, B, sI, pins, σ1, H1, cls, d, rfl, J, nb, (up.trans up3).trans up4, .inr (.inr (hs ▸ hh4)), na, os, ag, hw⟩)
      first
        | exact wpAny_bind last
        | exact wpAny_bind (wpAny_pure (wpAny_bind last))
    | @more x n c i ts st sts np p l2 m2 hx hi hl suite rest ih =>
      rintro ⟨b, eb, yes, no⟩
      refine wpAny_handleBy_cons (codeAny_handlers_test ?_) (fun q => nomatch q)
      have isC := PySem.W.exm_one (M := model X.prog X.w) J3.kIn (show PySem.W.Looks (model X.prog X.w) g3 (typeOf (.ref a)) cls from fun A Q E s k q => wpAny_typeOf_ref (k _ _ get3) (z3.1.symm ▸ q)) eb
      have asked : ∀ {Q : Value → Shared → Prop} {E : Value → Shared → Prop}, Q c { s' with heap := g3 } → wpAny (model X.prog X.w) (X.A.mark (some (.ref a))) (eval (.Name x np) X.env) Q E { s' with heap := g3 } := by
        intro Q E q
        rcases hx with ⟨gl, db, mm | ⟨mm, bv, hnn⟩⟩
        · exact ld_glob (X := X.suite a ((a, o3) :: (X.pn ++ pins))) K3 gl mm q db
        · exact ld_blt (X := X.suite a ((a, o3) :: (X.pn ++ pins))) K3 gl mm bv q hnn db
      refine asked (isC.here ?_)
      cases b with
      | false => exact ih (no rfl)
      | true =>
        refine codeAny_handlers_suite_as (HandSPX.lands_againZ fl3 fun g4 fl4 up4 => ?_)
        have J4 : Inv X pins σ1 H1 { s' with heap := g4 } := J.landed nb fl4.1 ((up.trans up3).trans up4) os ag
        obtain ⟨o4, _, get4, z4, dat4⟩ := fl4.there
        refine store_ok (X := X.suite a ((a, o4) :: (X.pn ++ pins))) (v := .ref a) (J4.suite get4 dat4 na aL aF) hN hi (.inl hl) rfl (fun s5 S5 => ?_) (.inr hl)
        refine wpAny_mono ((suite a o4 cls d (X.pn ++ pins) z4 ⟨_, dat4⟩).run [] s5 _ H1 _ S5 (yes rfl a na)) (fun fl s6 hsp => ?_) (fun _ _ z => z.elim)
        have off : ∀ {σ6 : L2.St} {H6 : Hp} {R : Shared → Prop}, Inv (X.suite a ((a, o4) :: (X.pn ++ pins))) [] σ6 H6 s6 → (∀ s7, Inv X pins (σ6.set i none) H6 s7 → R s7) → wpAny (model X.prog X.w) X.A (do bindName X.env n .none; unbindBehindTheSuite X.env n p) (fun _ s7 => R s7) X.xe s6 :=
          fun S hR => gone_ok (S.unsuite okX) hN hi hl hR
        match fl, hsp with
        | .ret u, ⟨v, σ6, H6, S6, rv, q⟩ => exact off S6 fun s7 J7 => ⟨v, _, H6, J7, rv, q⟩
        | .next, ⟨σ6, H6, S6, q⟩ => exact off S6 fun s7 J7 => ⟨_, H6, J7, q⟩
        | .brk, ⟨σ6, H6, S6, q⟩ => exact off S6 fun s7 J7 => ⟨_, H6, J7, q⟩
        | .cont, ⟨σ6, H6, S6, q⟩ => exact off S6 fun s7 J7 => ⟨_, H6, J7, q⟩
  refine wpAny_Try_except (wpAny_mono ((hb (wEach X.K out D cs) (X.pn ++ pins) wish caught PassesOwn.looking).run [] s σ H D (I.toTry _) h) (fun fl s1 hsp => ?_) (fun _ _ he => he))
  match fl, hsp with
  | .next, ⟨σ', H', J', q⟩ => exact wpAny_execs_nil ⟨σ', H', J'.ofTry okX, q⟩
  | .brk, ⟨σ', H', J', q⟩ => exact ⟨σ', H', J'.ofTry okX, q⟩
  | .cont, ⟨σ', H', J', q⟩ => exact ⟨σ', H', J'.ofTry okX, q⟩
  | .ret u, ⟨v, σ', H', J', rv, q⟩ => exact ⟨v, σ', H', J'.ofTry okX, rv, q⟩
end
end SoC

set_option Elab.async false
set_option linter.all false
set_option maxRecDepth 100000
set_option maxHeartbeats 4000000
namespace SoC
open PySem PySem.Spec PyProof.Rows L2 LamX NdefX So
/-! ### a comprehension whose parts may lean on what the running def's cells hold -/
section
variable {X : Cx} {elt tg iter : Expr} {ifs : List Expr} {scope : Scope} {own : List (Str × Nat)} {pos : Pos} {wi : TI} {g : TG} {tt : L2.St → TT} {te : L2.St → TE}
/-- the block, begun at s -/
abbrev blkAt (X : Cx) (scope : Scope) (s : Shared) (H : Hp) (C : Addr) (cl : List (Str × Addr)) (fp : List Addr) : Cx := X.blk s H scope (compEnvC scope cl C X.env) fp
theorem pe_lcF (hc : X.calm = true) (hN : X.N.Nodup) (hi : PI X tg iter wi) (ok : BlkOk X.N X.env.scope scope own) (hg : ∀ (s : Shared) (H : Hp) (C : Addr) (cl : List (Str × Addr)) (fp : List Addr), PG (blkAt X scope s H C cl fp) tg g)
    (ht : ∀ (pins : List (Addr × Obj)) (σ : L2.St) (s : Shared) (H : Hp) (C : Addr) (cl : List (Str × Addr)) (fp : List Addr), Inv X pins σ H s → (∀ b ∈ fp, FpOk X pins H b) → PTs (blkAt X scope s H C cl fp) ifs (tt σ))
    (he : ∀ (pins : List (Addr × Obj)) (σ : L2.St) (s : Shared) (H : Hp) (C : Addr) (cl : List (Str × Addr)) (fp : List Addr), Inv X pins σ H s → (∀ b ∈ fp, FpOk X pins H b) → PE (blkAt X scope s H C cl fp) elt (te σ))
    (hs : ∀ x, foldedSetIterable iter X.env x = pure x := by intro _; rfl) : PE X (.ListComp elt [⟨tg, iter, ifs, 0⟩] scope pos) (fun σ H Q => tLc wi g (tt σ) (te σ) (own.map (·.2)) σ H Q) := by
  constructor
  intro pins s σ H Q I h
  rw [eval_ListComp]
  have clo : closureFor scope X.env = pure (cloFrom X.env.cells scope.names []) := closure_ok fun y hy e => (ok.free y hy e).elim (fun k => I.ok.has _ (.inl k)) fun k => I.ok.has _ (.inr k)
  refine wpAny_comprehension_free (use := none) rfl hs clo ok.kind (fun y hy e => (ok.uniq y hy).trans (congrArg some e)) (thn (hi.run pins s σ H _ I h) fun v1 s1 h1 => thn h1 fun v2 s2 h2 => ?_)
  obtain ⟨it, fp, tn, J, H2, rfl, I2, T, at2, fp2, walk⟩ := h2
  refine wpAny_newObj_type (newEnv_comp ?_) (Nat.zero_le _)
  obtain ⟨D, eD⟩ : ∃ D, D = s2.heap.objs.size := ⟨_, rfl⟩
  rw [← eD]
  have D0 : H2 D = none := I2.hok.fresh (Nat.le_of_eq eD.symm)
  obtain ⟨W, ⟨m0, w0⟩, turn⟩ := walk D D0
  -- the list stands
  obtain ⟨s3, e3⟩ : ∃ s3 : Shared, s3 = { s2 with heap := s2.heap.push { cls := .type "list", data := .seq ([] : List Value).toArray } } := ⟨_, rfl⟩
  have get3 : s3.heap.get? D = some { cls := .type "list", data := .seq ([] : List Value).toArray } := by
    rw [e3, eD]
    exact Heap.get?_push_size _ rfl
  have up3 : ∀ b o, s2.heap.get? b = some o → s3.heap.get? b = some o := fun b o e => by
    rw [e3]
    exact Heap.get?_push_of_some _ e
  have size3 : s3.heap.objs.size = s2.heap.objs.size + 1 := by
    rw [e3]
    exact Heap.size_push ..
  have I3 : Inv X pins σ (upd H2 D (.lst [])) s3 := by
    have q := I2.laid (t' := s2.toks) (h' := s3.heap) (a := D) (o := .lst []) up3 (Nat.le_of_eq eD.symm) ⟨Nat.zero_le _, [], 0, .nil, get3⟩
    rw [e3] at q ⊢
    exact q
  have lt2 : ∀ b ∈ fp, b < s2.heap.objs.size := fun b hb => by
    obtain ⟨o, e, _⟩ := T.obj _ _ at2 b hb
    exact Heap.lt_size e
  obtain ⟨H3, eH3⟩ : ∃ H3, H3 = upd H2 D (.lst []) := ⟨_, rfl⟩
  rw [← eH3] at I3 w0
  have fp3 : ∀ b ∈ fp, FpOk X pins H3 b ∧ b < s3.heap.objs.size := by
    intro b hb
    have l := lt2 b hb
    have n : b ≠ D := fun z => Nat.lt_irrefl _ (eD ▸ z ▸ l)
    obtain ⟨z, rest⟩ := fp2 b hb
    refine ⟨⟨?_, rest⟩, size3 ▸ Nat.lt_succ_of_lt l⟩
    rw [eH3, upd_ne n]
    exact z
  have at3 : tn 0 s3.heap := T.keep _ _ _ at2 fun b _ o e => up3 b o e
  obtain ⟨cl, ecl⟩ : ∃ cl, cl = cellsFrom (s3.heap.objs.size + 1) scope.names (cloFrom X.env.cells scope.names []) := ⟨_, rfl⟩
  obtain ⟨s4, e4⟩ : ∃ s4 : Shared, s4 = { s3 with heap := pushCells (s3.heap.push { cls := .type "dict", data := .dict #[] }) scope.names } := ⟨_, rfl⟩
  have B4 : Inv (blkAt X scope s3 H3 s3.heap.objs.size cl fp) [] (wipe σ (own.map (·.2))) H3 s4 := by
    rw [ecl, e4]
    exact block_start I3 ok hN fp3
  have PGs := hg s3 H3 s3.heap.objs.size cl fp
  have PTt := ht pins σ s3 H3 s3.heap.objs.size cl fp I3 fun b hb => (fp3 b hb).1
  have PEe := he pins σ s3 H3 s3.heap.objs.size cl fp I3 fun b hb => (fp3 b hb).1
  have at4 : tn 0 s4.heap := T.keep _ _ _ at3 fun b _ o e => by
    rw [e4]
    exact pushCells_keeps _ _ _ _ (Heap.get?_push_of_some _ e)
  have none3 : ∀ b ∈ fp, H3 b = none := fun b hb => (fp3 b hb).1.1
  have env1 : (blkAt X scope s3 H3 s3.heap.objs.size cl fp).env.locals = s3.heap.objs.size := rfl
  -- in the block an iterator's records are its own
  have recs : ∀ {σ' : L2.St} {H' : Hp} {s' : Shared}, Inv (blkAt X scope s3 H3 s3.heap.objs.size cl fp) [] σ' H' s' → (∀ b ∈ fp, H' b = none) → ∀ b ∈ fp, FpOk (blkAt X scope s3 H3 s3.heap.objs.size cl fp) [] H' b := by
    intro σ' H' s' J' n b hb
    obtain ⟨x1, x2⟩ := J'.ok.exf b hb
    exact ⟨n b hb, x1, J'.ok.exfs b hb, .inl hb, x2, fun p hp => nomatch (show p ∈ ([] : List (Addr × Obj)) ++ [] from hp)⟩
  have loop : codeAny (model X.prog X.w) X.A (.compLoop (.ListComp elt [⟨tg, iter, ifs, 0⟩] scope pos) 0 (.ref it) (.ref D) (compEnvC scope cl s3.heap.objs.size X.env)) (compPost (model X.prog X.w) X.A X.xe none (EP X pins σ Q) (.ref D) s3.heap.objs.size) s4 := by
    refine compLoop_any (fun n s' => ∃ i H', Inv (blkAt X scope s3 H3 s3.heap.objs.size cl fp) [] (wipe σ (own.map (·.2))) H' s' ∧ tn i s'.heap ∧ (∀ b ∈ fp, H' b = none) ∧ W i n H') (fun n s5 hyp => ?_) m0 ⟨0, H3, B4, at4, none3, w0⟩
    obtain ⟨i, H5, B5, at5, n5, w5⟩ := hyp
    rcases turn i n H5 w5 with ⟨halt, q⟩ | ⟨go, Nx, hNx, step⟩
    · refine thnF (T.done (blkAt X scope s3 H3 s3.heap.objs.size cl fp) rfl rfl rfl hc i [] s5 _ H5 (fun _ _ => False) B5 (recs B5 n5) at5 halt) fun r s6 h6 => ?_
      obtain ⟨rfl, B6⟩ := h6
      have I6 : Inv X pins σ H5 s6 := I3.call' (ch := fp) B6.os B6.base B6.hok B6.bare fun b hb => by
        obtain ⟨⟨_, y1, _, y2, y3, y4⟩, _⟩ := fp3 b hb
        exact ⟨y2, y1, y3, y4⟩
      have free6 : H5 s3.heap.objs.size = none := env1 ▸ B6.free
      obtain ⟨m, ns6, _⟩ := B6.loc
      obtain ⟨f0, f1, f2, f3, f4, f5⟩ := I3.fpOk (Nat.le_refl _) free6
      exact ⟨m, ns6, fun g' same => ⟨.ref D, H5, I6.turned (t' := s6.toks) (fun b o nb e => (same.2 b nb).trans e) f0 f1 f3 f4 f5, rfl, q⟩⟩
    · refine thnF (T.item (blkAt X scope s3 H3 s3.heap.objs.size cl fp) rfl rfl rfl hc i [] s5 _ H5 (fun _ _ => False) B5 (recs B5 n5) at5 go) fun r s6 h6 => ?_
      obtain ⟨u, rfl, h6⟩ := h6
      refine thnF h6 fun _ s7 h7 => ?_
      obtain ⟨x, H7, B7, rx, yx, at7, n7⟩ := h7
      have B7' := B7.pinned (recs B7 n7) (T.obj _ _ at7)
      refine thnF (PGs.run _ s7 _ H7 x u _ B7' rx (step x H7 yx)) fun _ s8 h8 => ?_
      obtain ⟨σ8, H8, B8, wp8, q8⟩ := h8
      refine thnF (PTt.run _ s8 σ8 H8 _ B8 q8) fun b s9 h9 => ?_
      obtain ⟨H9, B9, q9⟩ := h9
      have len8 : (wipe σ (own.map (·.2))).length = σ8.length := by rw [← wp8, wipe_length]
      have next : ∀ {s' : Shared} {H' : Hp}, Inv (blkAt X scope s3 H3 s3.heap.objs.size cl fp) ([] ++ pinsAt fp s7.heap) σ8 H' s' → Nx H' →
          ∃ m, m < n ∧ ∃ i H', Inv (blkAt X scope s3 H3 s3.heap.objs.size cl fp) [] (wipe σ (own.map (·.2))) H' s' ∧ tn i s'.heap ∧ (∀ b ∈ fp, H' b = none) ∧ W i m H' := by
        intro s' H' B' nx
        obtain ⟨m', lt, w'⟩ := hNx H' nx
        have pins' : ∀ b ∈ fp, ∀ o, s7.heap.get? b = some o → s'.heap.get? b = some o ∧ H' b = none := fun b hb o e => by
          obtain ⟨z1, z2, _⟩ := B'.pin (b, o) (List.mem_append_right _ (List.mem_append_right _ (mem_pinsAt hb e)))
          exact ⟨z1, z2⟩
        refine ⟨m', lt, i + 1, H', (B'.unpinned (pins := [])).weak len8 (fun j v e => (wipe_some (wp8 ▸ e)).1), T.keep _ _ _ at7 (fun b hb o e => (pins' b hb o e).1), fun b hb => ?_, w'⟩
        obtain ⟨o, e, _⟩ := T.obj _ _ at7 b hb
        exact (pins' b hb o e).2
      cases b with
      | true =>
        simp only [if_true] at q9 ⊢
        refine thnF (PEe.run _ s9 σ8 H9 _ B9 q9) fun z s10 h10 => ?_
        obtain ⟨y, H10, B10, r10, acc, hD, room, nx⟩ := h10
        exact app_ok (X := blkAt X scope s3 H3 s3.heap.objs.size cl fp) B10 hD room r10 fun s11 B11 => next B11 nx
      | false =>
        simp only [Bool.false_eq_true, if_false] at q9 ⊢
        exact next B9 q9
  have fin := codeAny_compStart_list loop (T.self X.A 0 _ _ _ at4 loop)
  subst ecl
  subst e4
  subst e3
  exact fin
end
end SoC

set_option Elab.async false
set_option linter.all false
set_option maxRecDepth 100000
set_option maxHeartbeats 4000000
namespace SoG
open PySem PySem.Spec PyProof.Rows L2 So
/-- a law's def where it is called from outside: there nothing is under way -/
def GOk (Pg : Program) (w : World) (K : PySem.W.Frag) (mg : Str → Option Value) (base : Heap) (f : Addr) (fd : FuncData) (sp : Sp) : Prop :=
  ∀ (s : Shared) (H : Hp) (u : Value) (v : V) (Q : VK) (E : XK), Env0 Pg w K mg base callerA [] s H → BindsTo s fd ⟨[u], []⟩ [("script", u)] → RelV v u → sp [v] H Q E → codeAny (model Pg w) callerA (.call (.ref f) ⟨[u], []⟩) (CR CX0 [] Pg w H s Q E) s
section
variable {Pg : Program} {w : World} {K : PySem.W.Frag} {mg : Str → Option Value} {base : Heap}
theorem law_ok {x : Str} {st : Stmt} {f : Addr} {fd : FuncData} {N : List Str} {k : Nat} {sp : Sp} (F : Fun K x x st f fd) (S : FnScope N ["script"] (defScope st)) (hr : Room (k + 1) callerA)
    (body : ∀ (cd : Value) (s : Shared) (H : Hp) (v : V) (Q : VK) (E : XK), Room k (callerA.deeper (envOfC x (defScope st) s.heap.objs.size f cd)) → sp [v] H Q E →
      ∃ t, PSs (cxOf CX0 Pg w K mg base N x (defScope st) f cd callerA [] s H E).nox (defBody st) t ∧ t { nx := fun _ H' => Q .non H', rt := Q } (start N [v]) H) : GOk Pg w K mg base f fd sp := by
  obtain ⟨oc, od, kV, doc, pm, an, cd, ct, osl, rfl, lk, hcd⟩ := F.ex
  intro s H u v Q E e0 hb r hsp
  have kp : ∀ b o, base.get? b = some o → s.heap.get? b = some o := fun b o z => (e0.bs b o z).1
  have pk : ∀ y ∈ [(("script" : Str), u)], (defScope st).names.lookup y.1 = some .local ∨ ((defScope st).names.lookup y.1 = some .cell ∧ ((cellsFrom (s.heap.objs.size + 1) (defScope st).names []).lookup y.1).isSome = true) := by
    intro y hy
    cases List.mem_singleton.mp hy
    exact (S.par "script" (List.mem_singleton.mpr rfl)).imp id fun q => ⟨q, PySem.W.cellsFrom_some _ _ _ (.inl q)⟩
  have KX := e0.mod.kin.keeps kp
  refine codeAny_call_function hr.depth (KX _ _ lk) rfl S.co S.gen rfl (PySem.W.codeRec_of KX hcd) (hb _ _ _ _ (wpAny_newFunctionEnv_cells S.kind pk fun env he s1 x1 => ?_))
  subst he
  obtain ⟨t, ht, hq⟩ := body cd s H v Q E (hr.deeper _) hsp
  have I := inv_start (CX := CX0) (E := E) (cd := cd) (f := f) (qual := x) (us := [u]) S hr.hd e0 rfl (.cons r .nil) x1
  refine ⟨(e0.mod.nolimit.keeps kp).keeps x1.toInCall.keep, codeAny_func (wpAny_mono (ht.nox.run [] s1 _ H _ I hq) (fun fl s' hs => ?_) fun _ _ z => z)⟩
  match fl, hs with
  | .ret u, ⟨v, σ', H', J, rv, q⟩ => exact ⟨v, H', J.os, J.bare, J.base, J.hok, rv, q⟩
  | .next, ⟨σ', H', J, q⟩ => exact ⟨V.non, H', J.os, J.bare, J.base, J.hok, rfl, q⟩
  | .brk, ⟨_, _, _, q⟩ => exact q.elim
  | .cont, ⟨_, _, _, q⟩ => exact q.elim
end
end SoG

set_option Elab.async false
set_option linter.all false
set_option maxRecDepth 100000
set_option maxHeartbeats 4000000
namespace SoFG
open PySem PySem.Spec PyProof.Rows L2 So
/-! ### defs that are promised only where no repr is under way (so that their bodies may ask repr of data) -/
structure FnG (Pg : Program) (w : World) (K : PySem.W.Frag) (mg : Str → Option Value) (base : Heap) (k : Nat) (f : Addr) (fd : FuncData) (ps : List Str) (sp : Sp) : Prop where
  len : ∀ vs H Q E, sp vs H Q E → vs.length = ps.length
  run : ∀ (A : Around) (outer : List Env) (s : Shared) (H : Hp) (args : Args) (us : List Value) (vs : List V) (Q : VK) (E : XK), Room k A → A.guards = some [] → Env0 Pg w K mg base A outer s H → BindsTo s fd args (ps.zip us) → Vals vs us → sp vs H Q E →
    codeAny (model Pg w) A (.call (.ref f) args) (CR CX0 outer Pg w H s Q E) s
theorem FnG.of {Pg : Program} {w : World} {K : PySem.W.Frag} {mg : Str → Option Value} {base : Heap} {k : Nat} {f : Addr} {fd : FuncData} {ps : List Str} {sp : Sp} (F : FnOk Pg w K mg base CX0 k f fd ps sp) : FnG Pg w K mg base k f fd ps sp :=
  ⟨F.len, fun A outer s H args us vs Q E hr _ e0 hb r h => F.run A outer s H args us vs Q E hr e0 hb r h⟩
section
variable {Pg : Program} {w : World} {K : PySem.W.Frag} {mg : Str → Option Value} {base : Heap}
theorem ok {x : Str} {st : Stmt} {f : Addr} {fd : FuncData} {N ps : List Str} {k : Nat} {sp : Sp} (F : Fun K x x st f fd) (S : FnScope N ps (defScope st)) (len : ∀ vs H Q E, sp vs H Q E → vs.length = ps.length)
    (body : ∀ (cd : Value) (A : Around) (outer : List Env) (s : Shared) (H : Hp) (vs : List V) (Q : VK) (E : XK), Room k (A.deeper (envOfC x (defScope st) s.heap.objs.size f cd)) → (A.deeper (envOfC x (defScope st) s.heap.objs.size f cd)).guards = some [] → sp vs H Q E →
      ∃ t, PSs (cxOf CX0 Pg w K mg base N x (defScope st) f cd A outer s H E).nox (defBody st) t ∧ t { nx := fun _ H' => Q .non H', rt := Q } (start N vs) H) : FnG Pg w K mg base (k + 1) f fd ps sp := by
  obtain ⟨oc, od, kV, doc, pm, an, cd, ct, osl, rfl, lk, hcd⟩ := F.ex
  refine ⟨len, ?_⟩
  intro A outer s H args us vs Q E hr hg e0 hb r hsp
  have hl := len _ _ _ _ hsp
  have kp : ∀ b o, base.get? b = some o → s.heap.get? b = some o := fun b o z => (e0.bs b o z).1
  have pk : ∀ y ∈ ps.zip us, (defScope st).names.lookup y.1 = some .local ∨ ((defScope st).names.lookup y.1 = some .cell ∧ ((cellsFrom (s.heap.objs.size + 1) (defScope st).names []).lookup y.1).isSome = true) := fun y hy =>
    (S.par y.1 (List.of_mem_zip hy).1).imp id fun q => ⟨q, PySem.W.cellsFrom_some _ _ _ (.inl q)⟩
  have KX := e0.mod.kin.keeps kp
  refine codeAny_call_function hr.depth (KX _ _ lk) rfl S.co S.gen rfl (PySem.W.codeRec_of KX hcd) (hb _ _ _ _ (wpAny_newFunctionEnv_cells S.kind pk fun env he s1 x1 => ?_))
  subst he
  obtain ⟨t, ht, hq⟩ := body cd A outer s H vs Q E (hr.deeper _) hg hsp
  have I := inv_start (CX := CX0) (E := E) (cd := cd) (f := f) (qual := x) (us := us) S hr.hd e0 hl r x1
  refine ⟨(e0.mod.nolimit.keeps kp).keeps x1.toInCall.keep, codeAny_func (wpAny_mono (ht.nox.run [] s1 _ H _ I hq) (fun fl s' hs => ?_) fun _ _ z => z)⟩
  match fl, hs with
  | .ret u, ⟨v, σ', H', J, rv, q⟩ => exact ⟨v, H', J.os, J.bare, J.base, J.hok, rv, q⟩
  | .next, ⟨σ', H', J, q⟩ => exact ⟨V.non, H', J.os, J.bare, J.base, J.hok, rfl, q⟩
  | .brk, ⟨_, _, _, q⟩ => exact q.elim
  | .cont, ⟨_, _, _, q⟩ => exact q.elim
end
section
variable {X : Cx} {k : Nat} {f : Addr} {fd : FuncData} {ps ks : List Str} {sp : Sp} {dvs : List V} {ds : List Value} {E : XK} {x : Str} {p pos : Pos} {e : Expr} {es : List Expr} {t tk : TA} {kws : List Keyword} {g : List Value → List Value → List Value} {gV : List V → List V → List V}
/-- a call of such a def by its name, where no repr is under way -/
theorem pe_callG (F : FnG X.prog X.w X.K X.mg X.base k f fd ps sp) (hgd : X.A.guards = some []) (hr : Room k X.A) (hg : Gl X x) (hm : X.mg x = some (.ref f)) (hk : PySem.W.keepIn X.K (.ref f) = true) (hb : Binds X.K fd ps []) (hx : Passes CX0 X E) (ha : PA X (e :: es) t)
    (hdb : (x == ("__debug__" : Str)) = false := by decide) (he : starEach (e :: es) X.env = (false, eval e X.env) :: starEach es X.env := by rfl) (hpl : (backTo pos (starEach es X.env)).any (·.1) = false := by rfl) :
    PE X (.Call (.Name x p) (e :: es) [] pos) (tCall sp [] E t) := by
  refine ⟨fun pins s σ H Q I h => wpAny_Call_Name_kw (ld_glob I hg hm ?_ hdb)⟩
  have fin : ∀ (gs : List Value) (sh : Shared) (zs : List V) (G : Hp), Inv X pins σ G sh → Vals zs gs → sp (zs ++ []) G Q E → wpAny (model X.prog X.w) X.A (call (.ref f) gs) (EP X pins σ Q) X.xe sh := by
    intro gs sh zs G J rv q
    rw [List.append_nil] at q
    have hl : gs.length = ps.length := rv.length.symm.trans (F.len _ _ _ _ q)
    have B := hb sh gs J.kIn (by rw [List.append_nil]; exact hl)
    rw [List.append_nil] at B
    refine wpAny_call (codeAny_mono (F.run X.A X.stack sh G ⟨gs, []⟩ gs zs Q E hr hgd J.env0 B rv q) fun z s' hq => ?_)
    match z, hq with
    | .error e, hq => exact hx pins σ G sh e s' J hq
    | .ok (.ret u), hq => exact J.after hq
  refine PySem.W.callWith_K (h₀ := X.base) I.ok.mod.kin hk ?_ he hpl
  exact thn (ha.run pos pins s σ H _ I h) fun gs sh ⟨zs, G, J, rv, q⟩ => ⟨J.kIn, fin gs sh zs G J rv q⟩
end
end SoFG

set_option Elab.async false
set_option linter.all false
set_option maxRecDepth 100000
set_option maxHeartbeats 4000000
namespace SoC
open PySem PySem.Spec PyProof.Rows L2 LamX NdefX So
section
variable {X : Cx} {k j i : Nat} {C : CF} {T : TR} {f : Addr} {sp : Sp} {E : L2.St → XK} {t : TA} {x : Str} {e : Expr} {es : List Expr} {p pos : Pos}
/-- a called name within a try -/
def tCalS (i : Nat) (f : Addr) (T : TR) (sp : Sp) (E : L2.St → XK) (t : TA) : TE := fun σ H Q => σ[i]? = some (some (.ref f)) ∧ FnK H f ∧ t σ H fun vs H1 => FnK H1 f ∧ trkIn T H1 ∧ sp vs H1 Q (E σ)
theorem pe_cal0S (c : Cal X.prog X.w X.K X.mg X.base k C T f sp) (hc : cellsIn C X.s_0 X.H_0) (hcx : ∀ a v, C a v → a ∉ X.ex) (hr : Room j X.A) (hk : k ≤ j) (hx : ∀ σ, PassesAt (L2.CX X.prog X.w) X σ (E σ)) (hN : X.N[i]? = some x) (hv : Vis X.env.scope x)
    (hd : (x == ("__debug__" : Str)) = false := by decide) (hcd : (x == ("__classdict__" : Str)) = false := by decide) : PE X (.Call (.Name x p) [] [] pos) (tCalS i f T sp E tNil) := by
  refine ⟨fun pins s σ H Q I h => ?_⟩
  obtain ⟨hs, hf, g1, g2, q⟩ := h
  refine wpAny_Call_Name_kw (thn ((pe_var (pos := p) hN hv hd hcd).run pins s σ H (fun v H1 => v = .ref f ∧ H1 = H) I ⟨.ref f, hs, rfl, rfl⟩) fun u s1 ⟨v, H1, I1, r1, q1⟩ => ?_)
  obtain ⟨rfl, rfl⟩ := q1
  obtain rfl : u = Value.ref f := r1
  refine PySem.W.callWith_F0 (first := []) (hf.at I1.hok) ?_
  show wpAny _ _ (call (.ref f) []) _ _ _
  refine wpAny_call (codeAny_mono (c X.A X.stack s1 _ [] [] Q (E σ) (hr.mono hk) I1.env0 (hc.un I1.base hcx) g2 .nil q) fun z s' hq => ?_)
  match z, hq with
  | .error e, hq => exact hx σ pins _ s1 e s' I1 hq
  | .ok (.ret u), hq => exact I1.after hq
end
end SoC
namespace K6
open PySem PySem.Spec PyProof.Rows L2 So SoFr SoC
/-! ### repr of data -/
def repD : PyData → Str
  | .none => "None"
  | .bool b => if b then "True" else "False"
  | .int i => toString i
  | .str z => reprText z
  | d => d.shown
/-- it can be shown -/
def repOk : PyData → Prop
  | .none => True
  | .bool _ => True
  | .int i => i.natAbs.log2 < 1920
  | .str z => (reprText z).length ≤ sizeLine
  | d => d.showable = true ∧ d.hasDict = false ∧ d.depth ≤ 60 ∧ d.shown.length ≤ sizeLine
def rReprA (K : PySem.W.Frag) : List V → Hp → VK → Prop := fun xs H Q => ∃ (v : V) (D : PyData), xs = [v] ∧ Dp K H v D ∧ repOk D ∧ Q (.str (repD D)) H
theorem call_reprA {X : Cx} (hg : X.A.guards = some []) (hu : X.A.units + 64 < cLine) : CallR X (.builtin "repr") (rReprA X.K) := by
  intro pins s σ H xs us Q I r h
  obtain ⟨v, D, rfl, hD, ok, q⟩ := h
  match us, r with
  | [u], .cons ru .nil =>
    have big : ∀ {a : Addr}, v = .ref a → D.showable = true ∧ D.hasDict = false ∧ D.depth ≤ 60 ∧ D.shown.length ≤ sizeLine → repD D = D.shown → wpAny (model X.prog X.w) X.A (call (.builtin "repr") [u]) (EP X pins σ Q) X.xe s := by
      rintro a rfl ⟨h1, h2, h3, h4⟩ e
      obtain rfl : u = Value.ref a := ru
      obtain ⟨as, rd⟩ := Dp.reads I D (.ref a) (.ref a) hD rfl
      rw [e] at q
      exact repr_of_reads' rd h1 (PyData.noDict_hsm h2) hg (by omega) (fun _ _ e => e) (fun h' u tk hk => ⟨.str D.shown, H, I.kept hk, ⟨u, rfl⟩, q⟩) h4
    cases hD with
    | lst a b => exact big rfl ok rfl
    | tup a b => exact big rfl ok rfl
    | non =>
      obtain rfl : u = Value.none := ru
      exact PySem.P.repr_of_none ⟨.str "None", H, I.tok _, ⟨_, rfl⟩, q⟩
    | bl b =>
      obtain rfl : u = Value.bool b := ru
      exact PySem.P.repr_of_bool ⟨.str (if b then "True" else "False"), H, I.tok _, ⟨_, rfl⟩, q⟩
    | int i =>
      obtain ⟨t, rfl⟩ := (show ∃ t, u = Value.int i t from ru)
      exact PySem.P.repr_of_int ok ⟨.str (toString i), H, I.tok _, ⟨_, rfl⟩, q⟩
    | str z =>
      obtain ⟨t, rfl⟩ := (show ∃ t, u = Value.str z t from ru)
      exact PySem.P.repr_of_str ⟨.str (reprText z), H, I.tok _, ⟨_, rfl⟩, q⟩ ok
/-! ### what is asked and heard -/
/-- an answer, or an error: its class, what it bears -/
inductive Out where
  | told (D : PyData)
  | err (C : Addr) (D : PyData)
def spAsk (K : PySem.W.Frag) (P : Addr) (o : Out) : Sp := fun vs H Q E => vs = [] ∧ GxR.TabG H P ∧ match o with
  | .told D => ∀ v H', Sm P H H' → Dp K H' v D → Q v H'
  | .err C D => ∀ d v H', Sm P H H' → Xd H' d v → Dp K H' v D → E (.ref C) (some d) H'
def hrdD (wd : Addr → Str) : Out → PyData
  | .told D => .tuple [.str "told", D]
  | .err C D => .tuple [.str (wd C), .str (repD D), .bool true]
/-- what an error's class says besides -/
structure ErO (K : PySem.W.Frag) (C O : Addr) : Prop where
  xf : XfC K C
  is : IsC K C
  na : PySem.W.findIn K (.ref C) "at" = some none
  op : PySem.W.kitOne K (.ref C) (.ref O) = some true
  te : PySem.W.exmOne K (.ref C) (.ref C) = some true
section
variable {Pg : Program} {w : World} {K : PySem.W.Frag} {mg : Str → Option Value} {base : Heap} {P : Addr}
/-! ### _law_heard -/
theorem scHrd : FnScope ["ask", "fault"] ["ask"] (defScope sHrd) := ⟨rfl, rfl, rfl, by decide +kernel, rfl, by decide +kernel, by decide +kernel⟩
/-- the errors that are heard -/
structure Hear (K : PySem.W.Frag) (mg : Str → Option Value) (CS CR O : Addr) : Prop where
  gS : mg "BadStream" = some (.ref CS)
  gR : mg "Refused" = some (.ref CR)
  gO : mg "OpenError" = some (.ref O)
  S : ErO K CS O
  R : ErO K CR O
  RS : PySem.W.exmOne K (.ref CR) (.ref CS) = some false
inductive Heard (CS CR : Addr) : Out → PyData → Prop
  | told (D : PyData) : Heard CS CR (.told D) (.tuple [.str "told", D])
  | stream (D : PyData) (h : repOk D) : Heard CS CR (.err CS D) (.tuple [.str "stream", .str (repD D), .bool true])
  | refused (D : PyData) (h : repOk D) : Heard CS CR (.err CR D) (.tuple [.str "refused", .str (repD D), .bool true])
def spHrd (Pg : Program) (w : World) (K : PySem.W.Frag) (mg : Str → Option Value) (base : Heap) (P CS CR : Addr) : Shared → Sp := fun s vs H Q _ => GxR.TabG H P ∧ ∃ (f : Addr) (C : CF) (T : TR) (o : Out) (D : PyData), vs = [.ref f] ∧
  Cal Pg w K mg base 8 C T f (spAsk K P o) ∧ cellsIn C s H ∧ trkIn T H ∧ FnK H f ∧ Heard CS CR o D ∧ ∀ v H', Sm P H H' → Dp K H' v D → Q v H'
/-- what a clause tells -/
def tsH (K : PySem.W.Frag) (w : Str) (C O : Addr) : Addr → Value → Option Addr → TS := fun a cls d => tRet (tTup (tCons (tC (.str w)) (tCons (tCB (rReprA K) (tCons (tXf a cls d C "at" (tVar 1)) tNil)) (tCons (tCB (rIsD K a cls d) (tCons (tVar 1) (tCons (tC (.ref O)) tNil))) tNil))))
theorem ok_hrd {f CS CR O : Addr} {fd : FuncData} (F : Fun K "_law_heard" "_law_heard" sHrd f fd) (T : Ty K mg) (B : Hear K mg CS CR O) : FnS Pg w K mg base CX0 9 f fd ["ask"] (spHrd Pg w K mg base P CS CR) := by
  refine okS F scHrd (fun s vs H Q E h => ?_) (fun cdv A outer s H vs Q E hr hgd h => ?_)
  · obtain ⟨_, _, _, _, _, _, rfl, _⟩ := h
    rfl
  · obtain ⟨t, f', C, TT, o, D, rfl, hcal, hc, ht, hf, hh, k⟩ := h
    have hu := hr.units
    refine ⟨_, pss_one (ps_tryEach (out := fun _ _ _ _ => False) (cs := [(.ref CS, 1, tsH K "stream" CS O), (.ref CR, 1, tsH K "refused" CR O)]) rfl rfl scHrd.nd takes0
      (fun W pn xe tk _ => pss_one (ps_ret (pe_tup (pa_cons pe_str (pa_cons (pe_cal0S (i := 0) hcal hc (fun _ _ _ z => nomatch z) hr (Nat.le_refl _) (fun σ => passAt tk σ) rfl (.inl rfl)) pa_nil)))))
      (.more ⟨rfl, by decide, Or.inl B.gS⟩ rfl rfl (fun a oe cls d pn hz hf => pss_one (ps_ret (pe_tup (pa_cons pe_str (pa_cons (pe_callB (call_reprA hgd hu) (by rfl) T.repr (by decide +kernel) (pa_cons (pe_xf B.S.xf B.S.na hz hf (pv 1)) pa_nil))
          (pa_cons (pe_callB (call_isD hz hf) (by rfl) T.T.isi (by decide +kernel) (pa_cons (pv 1) (pa_cons (pe_glob (v := .ref O) (by rfl) B.gO rfl) pa_nil))) pa_nil))))))
        (.more ⟨rfl, by decide, Or.inl B.gR⟩ rfl rfl (fun a oe cls d pn hz hf => pss_one (ps_ret (pe_tup (pa_cons pe_str (pa_cons (pe_callB (call_reprA hgd hu) (by rfl) T.repr (by decide +kernel) (pa_cons (pe_xf B.R.xf B.R.na hz hf (pv 1)) pa_nil))
          (pa_cons (pe_callB (call_isD hz hf) (by rfl) T.T.isi (by decide +kernel) (pa_cons (pv 1) (pa_cons (pe_glob (v := .ref O) (by rfl) B.gO rfl) pa_nil))) pa_nil)))))) .none))), ?_⟩
    have three : 3 ≤ sizeLine := by decide
    refine ⟨rfl, hf, hf, ht, rfl, t, ?_⟩
    cases hh with
    | told D => exact fun v H1 s1 hd => ⟨(by show 2 ≤ sizeLine; decide), fun p hp => k _ _ (s1.trans (Sm.new s1.2 hp)) (.tup (.inl (.inl upd_same)) (.cons (.str _) (.cons (Dp.mono s1.2 (Sm.new s1.2 hp) hd) .nil)))⟩
    | stream D hok =>
      intro d v H1 s1 hx hd
      refine ⟨true, B.S.te, fun _ a ha => ?_, fun q => nomatch q⟩
      exact ⟨_, rfl, rfl, rfl, d, _, v, rfl, hx, rfl, v, D, rfl, hd, hok, _, rfl, CS, O, d, _, true, rfl, rfl, rfl, B.S.is, hx, B.S.op, three, fun p hp => k _ _ (s1.trans (Sm.new s1.2 hp)) (.tup (.inl (.inl upd_same)) (.cons (.str _) (.cons (.str _) (.cons (.bl _) .nil))))⟩
    | refused D hok =>
      intro d v H1 s1 hx hd
      refine ⟨false, B.RS, fun q => (nomatch q), fun _ => ⟨true, B.R.te, fun _ a ha => ?_, fun q => nomatch q⟩⟩
      exact ⟨_, rfl, rfl, rfl, d, _, v, rfl, hx, rfl, v, D, rfl, hd, hok, _, rfl, CR, O, d, _, true, rfl, rfl, rfl, B.R.is, hx, B.R.op, three, fun p hp => k _ _ (s1.trans (Sm.new s1.2 hp)) (.tup (.inl (.inl upd_same)) (.cons (.str _) (.cons (.str _) (.cons (.bl _) .nil))))⟩
end
end K6

set_option Elab.async false
set_option linter.all false
set_option maxRecDepth 100000
set_option maxHeartbeats 4000000
namespace K6
open PySem PySem.Spec PyProof.Rows L2 So
/-- where draws come from -/
def Box (H : Hp) (b : Addr) : Prop := ∃ g s : Int, H b = some (.lst [.int g, .int s]) ∧ 0 ≤ g ∧ 0 ≤ s ∧ s ≤ 2147483563
section
variable {Pg : Program} {w : World} {K : PySem.W.Frag} {mg : Str → Option Value} {base : Heap} {P : Addr}
/-! ### _law_box -/
theorem scBox : FnScope ["script", "k", "cell", "great"] ["script", "k"] (defScope sBox) := ⟨rfl, rfl, rfl, by decide +kernel, rfl, by decide +kernel, by decide +kernel⟩
def spBox (K : PySem.W.Frag) (P : Addr) : Sp := fun vs H Q _ => GxR.TabG H P ∧ ∃ (a : Addr) (ns : List Int) (k : Nat), vs = [.ref a, .int (k : Int)] ∧ SqL K H a (ns.map V.int) ∧ ns.length ≤ 63 ∧ k ≤ 1000 ∧
  ∀ b H', Sm P H H' → H b = none → b ≠ P → Box H' b → Q (.ref b) H'
theorem item_int {ns : List Int} {j : Nat} (h : j < ns.length) : ∃ n, (ns.map V.int)[j]? = some (V.int n) := ⟨ns[j], by rw [List.getElem?_map, List.getElem?_eq_getElem h]; rfl⟩
theorem ok_box {f : Addr} {fd : FuncData} (F : Fun K "_law_box" "_law_box" sBox f fd) (T : Tx K mg) : FnOk Pg w K mg base CX0 1 f fd ["script", "k"] (spBox K P) := by
  refine F.ok scBox (fun vs H Q E h => ?_) (fun cdv A outer s H vs Q E hr h => ?_)
  · obtain ⟨_, _, _, _, rfl, _⟩ := h
    rfl
  · obtain ⟨t, a, ns, k, rfl, hS, hlen, hk, kont⟩ := h
    refine ⟨_, pss_cons (ps_set (i := 2) scBox.nd rfl (Or.inl rfl) (pe_op op_add (pe_op op_mul pe_int (pv 1)) pe_int))
      (pss_cons (ps_if (pt_cmpR op_lt (pv 1) (pe_callB call_len_seq (by rfl) T.len (by decide +kernel) (pa_cons (pv 0) pa_nil)) (nomark _))
        (pss_one (ps_set (i := 2) scBox.nd rfl (Or.inl rfl) (pe_callB call_abs (by rfl) T.abs (by decide +kernel) (pa_cons (pe_callTy call_int1 (by rfl) T.int (by decide +kernel) (pa_cons (pe_ix ix_list (pv 0) (pv 1) (fun _ _ => rfl)) pa_nil)) pa_nil))))
        (pss_one (ps_if (pt_cmpR op_gt (pe_callB call_len_seq (by rfl) T.len (by decide +kernel) (pa_cons (pv 0) pa_nil)) pe_int (nomark _))
          (pss_one (ps_set (i := 2) scBox.nd rfl (Or.inl rfl) (pe_op op_add (pv 2) (pe_op op_mul (pe_op op_mod (pe_callTy call_int1 (by rfl) T.int (by decide +kernel) (pa_cons (pe_callB call_abs (by rfl) T.abs (by decide +kernel) (pa_cons (pe_callTy call_int1 (by rfl) T.int (by decide +kernel)
              (pa_cons (pe_ix ix_list (pv 0) (pe_op op_mod (pe_callTy call_int1 (by rfl) T.int (by decide +kernel) (pa_cons (pv 1) pa_nil)) (pe_callB call_len_seq (by rfl) T.len (by decide +kernel) (pa_cons (pv 0) pa_nil))) (fun _ _ => rfl)) pa_nil)) pa_nil)) pa_nil)) pe_int) pe_int))))
          pss_nil)))
      (pss_cons (ps_set (i := 3) scBox.nd rfl (Or.inl rfl) (pe_ifExp (pt_cmpR op_ge (pv 2) (pe_op op_pow pe_int pe_int) (nomark _)) (pv 2) pe_int))
      (pss_one (ps_ret (pe_lst (pa_cons (pv 3) (pa_cons (pe_op op_add (pe_op op_mod (pe_callTy call_int1 (by rfl) T.int (by decide +kernel) (pa_cons (pe_op op_add (pe_op op_mul (pe_op op_mod (pe_callTy call_int1 (by rfl) T.int (by decide +kernel) (pa_cons (pv 2) pa_nil)) pe_int) pe_int) (pe_op op_mul pe_int (pv 1))) pa_nil)) pe_int) pe_int) pa_nil))))))), ?_⟩
    have nP : ∀ {b : Addr}, H b = none → b ≠ P := fun e z => by
      obtain ⟨ps, q, _⟩ := t
      rw [z, q] at e
      cases e
    refine ⟨_, rfl, _, _, rfl, rfl, .inl ⟨(by show -(2 ^ 64) < (15101 : Int); decide), (by show (15101 : Int) < 2 ^ 64; decide)⟩, _, _, rfl, rfl, ?_⟩
    refine ⟨_, rfl, _, rfl, a, _, rfl, .inl hS, _, _, rfl, rfl, _, rfl, ?_⟩
    refine ite2 (fun h1 => ?_) (fun h1 => ?_)
    · have h1' : (k : Int) < ((ns.map V.int).length : Nat) := of_decide_eq_true h1
      rw [List.length_map] at h1'
      obtain ⟨n, hn⟩ := item_int (ns := ns) (j := k) (by omega)
      refine ⟨_, rfl, _, rfl, a, _, _, _, rfl, rfl, hS, atI_nat hn, .inl ⟨_, rfl, _, rfl, ?_⟩⟩
      have c0 : 0 ≤ (if n < 0 then -n else n) := by split <;> omega
      generalize (if n < 0 then -n else n) = c at c0
      refine ⟨_, rfl, _, _, rfl, rfl, ⟨by decide, by decide, by decide⟩, _, _, rfl, rfl, _, rfl, ?_⟩
      refine ite2 (fun _ => ?_) (fun _ => ?_)
      · refine ⟨_, rfl, ?_⟩
        refine ⟨_, rfl, _, rfl, .inl ⟨_, rfl, _, _, rfl, rfl, (by show (0 : Int) < 2147483563; decide), _, _, rfl, rfl, .inr ⟨(by show -(2 ^ 64) < (54130009 : Int); decide), (by show (54130009 : Int) < 2 ^ 64; decide)⟩, _, rfl, _, _, rfl, rfl, .inl ⟨(by show -(2 ^ 64) < (8209 : Int); decide), (by show (8209 : Int) < 2 ^ 64; decide)⟩, _, _, rfl, rfl, .inl ⟨_, rfl, _, _, rfl, rfl, (by show (0 : Int) < 2147483563; decide), _, _, rfl, rfl, (by show 2 ≤ sizeLine; decide), fun q hq => ?_⟩⟩⟩
        exact kont q _ (Sm.new t hq) hq (nP hq) ⟨_, _, upd_same, c0, by omega, by omega⟩
      · refine ⟨_, rfl, _, rfl, .inl ⟨_, rfl, _, _, rfl, rfl, (by show (0 : Int) < 2147483563; decide), _, _, rfl, rfl, .inr ⟨(by show -(2 ^ 64) < (54130009 : Int); decide), (by show (54130009 : Int) < 2 ^ 64; decide)⟩, _, rfl, _, _, rfl, rfl, .inl ⟨(by show -(2 ^ 64) < (8209 : Int); decide), (by show (8209 : Int) < 2 ^ 64; decide)⟩, _, _, rfl, rfl, .inl ⟨_, rfl, _, _, rfl, rfl, (by show (0 : Int) < 2147483563; decide), _, _, rfl, rfl, (by show 2 ≤ sizeLine; decide), fun q hq => ?_⟩⟩⟩
        exact kont q _ (Sm.new t hq) hq (nP hq) ⟨_, _, upd_same, Int.le_refl 0, by omega, by omega⟩
    · refine ⟨_, rfl, a, _, rfl, .inl hS, _, _, rfl, rfl, _, rfl, ?_⟩
      have c1 : (0 : Int) ≤ 15101 * (k : Int) + 8209 := by omega
      refine ite2 (fun h2 => ?_) (fun h2 => ?_)
      · have h2' : ((ns.map V.int).length : Nat) > (0 : Int) := of_decide_eq_true h2
        rw [List.length_map] at h2'
        obtain ⟨n, hn⟩ := item_int (ns := ns) (j := k % ns.length) (Nat.mod_lt _ (by omega))
        have ej : (k : Int) % (((ns.map V.int).length : Nat) : Int) = ((k % ns.length : Nat) : Int) := by
          rw [List.length_map]
          exact (Int.natCast_emod k ns.length).symm
        have at2 : atI (ns.map V.int) ((k : Int) % (((ns.map V.int).length : Nat) : Int)) = some (V.int n) := by
          rw [ej]
          exact atI_nat hn
        refine ⟨_, rfl, _, rfl, _, rfl, .inl ⟨_, rfl, _, rfl, a, _, rfl, .inl hS, _, _, rfl, rfl, (by rw [List.length_map]; exact h2'), a, _, _, _, rfl, rfl, hS, at2, .inl ⟨_, rfl, _, rfl, .inl ⟨_, rfl, _, _, rfl, rfl, (by show (0 : Int) < 2147483563; decide), _, _, rfl, rfl, .inr ⟨(by show -(2 ^ 64) < (95003 : Int); decide), (by show (95003 : Int) < 2 ^ 64; decide)⟩, _, _, rfl, rfl, ?_⟩⟩⟩⟩
        have m0 : 0 ≤ (if n < 0 then -n else n) % 2147483563 := Int.emod_nonneg _ (by decide)
        have c0 : 0 ≤ 15101 * (k : Int) + 8209 + (if n < 0 then -n else n) % 2147483563 * 95003 := by omega
        refine ⟨_, rfl, _, _, rfl, rfl, ⟨by decide, by decide, by decide⟩, _, _, rfl, rfl, _, rfl, ?_⟩
        refine ite2 (fun _ => ?_) (fun _ => ?_)
        · refine ⟨_, rfl, ?_⟩
          refine ⟨_, rfl, _, rfl, .inl ⟨_, rfl, _, _, rfl, rfl, (by show (0 : Int) < 2147483563; decide), _, _, rfl, rfl, .inr ⟨(by show -(2 ^ 64) < (54130009 : Int); decide), (by show (54130009 : Int) < 2 ^ 64; decide)⟩, _, rfl, _, _, rfl, rfl, .inl ⟨(by show -(2 ^ 64) < (8209 : Int); decide), (by show (8209 : Int) < 2 ^ 64; decide)⟩, _, _, rfl, rfl, .inl ⟨_, rfl, _, _, rfl, rfl, (by show (0 : Int) < 2147483563; decide), _, _, rfl, rfl, (by show 2 ≤ sizeLine; decide), fun q hq => ?_⟩⟩⟩
          exact kont q _ (Sm.new t hq) hq (nP hq) ⟨_, _, upd_same, c0, by omega, by omega⟩
        · refine ⟨_, rfl, _, rfl, .inl ⟨_, rfl, _, _, rfl, rfl, (by show (0 : Int) < 2147483563; decide), _, _, rfl, rfl, .inr ⟨(by show -(2 ^ 64) < (54130009 : Int); decide), (by show (54130009 : Int) < 2 ^ 64; decide)⟩, _, rfl, _, _, rfl, rfl, .inl ⟨(by show -(2 ^ 64) < (8209 : Int); decide), (by show (8209 : Int) < 2 ^ 64; decide)⟩, _, _, rfl, rfl, .inl ⟨_, rfl, _, _, rfl, rfl, (by show (0 : Int) < 2147483563; decide), _, _, rfl, rfl, (by show 2 ≤ sizeLine; decide), fun q hq => ?_⟩⟩⟩
          exact kont q _ (Sm.new t hq) hq (nP hq) ⟨_, _, upd_same, Int.le_refl 0, by omega, by omega⟩
      · refine ⟨_, rfl, _, _, rfl, rfl, ⟨by decide, by decide, by decide⟩, _, _, rfl, rfl, _, rfl, ?_⟩
        refine ite2 (fun _ => ?_) (fun _ => ?_)
        · refine ⟨_, rfl, ?_⟩
          refine ⟨_, rfl, _, rfl, .inl ⟨_, rfl, _, _, rfl, rfl, (by show (0 : Int) < 2147483563; decide), _, _, rfl, rfl, .inr ⟨(by show -(2 ^ 64) < (54130009 : Int); decide), (by show (54130009 : Int) < 2 ^ 64; decide)⟩, _, rfl, _, _, rfl, rfl, .inl ⟨(by show -(2 ^ 64) < (8209 : Int); decide), (by show (8209 : Int) < 2 ^ 64; decide)⟩, _, _, rfl, rfl, .inl ⟨_, rfl, _, _, rfl, rfl, (by show (0 : Int) < 2147483563; decide), _, _, rfl, rfl, (by show 2 ≤ sizeLine; decide), fun q hq => ?_⟩⟩⟩
          exact kont q _ (Sm.new t hq) hq (nP hq) ⟨_, _, upd_same, c1, by omega, by omega⟩
        · refine ⟨_, rfl, _, rfl, .inl ⟨_, rfl, _, _, rfl, rfl, (by show (0 : Int) < 2147483563; decide), _, _, rfl, rfl, .inr ⟨(by show -(2 ^ 64) < (54130009 : Int); decide), (by show (54130009 : Int) < 2 ^ 64; decide)⟩, _, rfl, _, _, rfl, rfl, .inl ⟨(by show -(2 ^ 64) < (8209 : Int); decide), (by show (8209 : Int) < 2 ^ 64; decide)⟩, _, _, rfl, rfl, .inl ⟨_, rfl, _, _, rfl, rfl, (by show (0 : Int) < 2147483563; decide), _, _, rfl, rfl, (by show 2 ≤ sizeLine; decide), fun q hq => ?_⟩⟩⟩
          exact kont q _ (Sm.new t hq) hq (nP hq) ⟨_, _, upd_same, Int.le_refl 0, by omega, by omega⟩
end
end K6

set_option Elab.async false
set_option linter.all false
set_option maxRecDepth 100000
set_option maxHeartbeats 4000000
namespace K6
open PySem PySem.Spec PyProof.Rows L2 So
/-- behind a draw -/
def Drw (H : Hp) (b : Addr) (k : Hp → Prop) : Prop := ∀ g s : Int, 0 ≤ g → 0 ≤ s → s ≤ 2147483563 → k (upd H b (.lst [.int g, .int s]))
theorem box_of {H : Hp} {b : Addr} {g s : Int} (h1 : 0 ≤ g) (h2 : 0 ≤ s) (h3 : s ≤ 2147483563) : Box (upd H b (.lst [.int g, .int s])) b := ⟨g, s, upd_same, h1, h2, h3⟩
section
variable {Pg : Program} {w : World} {K : PySem.W.Frag} {mg : Str → Option Value} {base : Heap} {P : Addr}
/-! ### _law_take -/
theorem scTak : FnScope ["box", "many", "digit", "raw"] ["box", "many"] (defScope sTak) := ⟨rfl, rfl, rfl, by decide +kernel, rfl, by decide +kernel, by decide +kernel⟩
def spTak : Sp := fun vs H Q _ => ∃ (b : Addr) (n : Int), vs = [.ref b, .int n] ∧ Box H b ∧ 0 < n ∧ n < 1000000000 ∧ ∀ r : Int, 0 ≤ r → r < n → Drw H b (fun H' => Q (.int r) H')
theorem ok_tak {f : Addr} {fd : FuncData} (F : Fun K "_law_take" "_law_take" sTak f fd) (T : Tx K mg) : FnOk Pg w K mg base CX0 1 f fd ["box", "many"] spTak := by
  refine F.ok scTak (fun vs H Q E h => ?_) (fun cdv A outer s H vs Q E hr h => ?_)
  · obtain ⟨_, _, rfl, _⟩ := h
    rfl
  · obtain ⟨b, n, rfl, ⟨g, z, hb, hg, hz, hz2⟩, hn, hn2, kont⟩ := h
    refine ⟨_, pss_cons (ps_if (pt_cmpR op_gt (pe_ix ix_list (pv 0) pe_int (fun _ _ => rfl)) pe_int (nomark _))
        (pss_cons (ps_set (i := 2) scTak.nd rfl (Or.inl rfl) (pe_op op_mod (pe_callTy call_int1 (by rfl) T.int (by decide +kernel) (pa_cons (pe_ix ix_list (pv 0) pe_int (fun _ _ => rfl)) pa_nil)) (pv 1)))
        (pss_cons (ps_asg (pe_op op_fdiv (pe_ix ix_list (pv 0) pe_int (fun _ _ => rfl)) (pv 1)) (pg_sub (pv 0) pe_int set_list))
        (pss_one (ps_ret (pv 2))))) pss_nil)
      (pss_cons (ps_set (i := 3) scTak.nd rfl (Or.inl rfl) (pe_op op_mod (pe_callTy call_int1 (by rfl) T.int (by decide +kernel) (pa_cons (pe_op op_add (pe_op op_mul (pe_ix ix_list (pv 0) pe_int (fun _ _ => rfl)) pe_int) pe_int) pa_nil)) pe_int))
      (pss_cons (ps_asg (pe_op op_add (pe_op op_mod (pe_callTy call_int1 (by rfl) T.int (by decide +kernel) (pa_cons (pe_op op_add (pe_op op_mul (pv 3) pe_int) pe_int) pa_nil)) pe_int) pe_int) (pg_sub (pv 0) pe_int set_list))
      (pss_one (ps_ret (pe_op op_mod (pe_callTy call_int1 (by rfl) T.int (by decide +kernel) (pa_cons (pe_op op_fdiv (pe_op op_add (pe_op op_mul (pv 3) pe_int) (pe_ix ix_list (pv 0) pe_int (fun _ _ => rfl))) pe_int) pa_nil)) (pv 1)))))), ?_⟩
    refine ⟨_, rfl, b, _, _, _, rfl, rfl, SqL.of hb, atI_nat (j := 0) rfl, _, _, rfl, rfl, _, rfl, ?_⟩
    refine ite2 (fun _ => ?_) (fun _ => ?_)
    · refine ⟨_, rfl, b, _, _, _, rfl, rfl, SqL.of hb, atI_nat (j := 0) rfl, .inl ⟨_, rfl, _, rfl, _, _, rfl, rfl, hn, ?_⟩⟩
      refine ⟨_, rfl, b, _, _, _, rfl, rfl, SqL.of hb, atI_nat (j := 0) rfl, _, rfl, _, _, rfl, rfl, ⟨hn, by omega⟩, ?_⟩
      refine ⟨_, rfl, b, _, _, 0, rfl, rfl, hb, rfl, ?_⟩
      refine ⟨_, rfl, ?_⟩
      exact kont _ (Int.emod_nonneg _ (by omega)) (Int.emod_lt_of_pos _ hn) (g / n) z (Int.ediv_nonneg hg (by omega)) hz hz2
    · refine ⟨_, rfl, b, _, _, _, rfl, rfl, SqL.of hb, atI_nat (j := 1) rfl, _, _, rfl, rfl, .inr ⟨(by show -(2 ^ 64) < (39373 : Int); decide), (by show (39373 : Int) < 2 ^ 64; decide)⟩, _, _, rfl, rfl, .inl ⟨_, rfl, _, _, rfl, rfl, (by show (0 : Int) < 2147483647; decide), ?_⟩⟩
      refine ⟨_, rfl, _, _, rfl, rfl, .inr ⟨(by show -(2 ^ 64) < (40692 : Int); decide), (by show (40692 : Int) < 2 ^ 64; decide)⟩, _, _, rfl, rfl, .inl ⟨_, rfl, _, _, rfl, rfl, (by show (0 : Int) < 2147483563; decide), _, _, rfl, rfl, ?_⟩⟩
      refine ⟨_, rfl, b, _, _, 1, rfl, rfl, hb, rfl, ?_⟩
      refine ⟨_, rfl, _, _, rfl, rfl, .inr ⟨(by show -(2 ^ 64) < (2147483629 : Int); decide), (by show (2147483629 : Int) < 2 ^ 64; decide)⟩, _, rfl, b, _, _, _, rfl, rfl, SqL.of upd_same, atI_nat (j := 1) rfl, _, _, rfl, rfl, _, _, rfl, rfl, ⟨by decide, by decide⟩, .inl ⟨_, rfl, _, rfl, _, _, rfl, rfl, hn, ?_⟩⟩
      exact kont _ (Int.emod_nonneg _ (by omega)) (Int.emod_lt_of_pos _ hn) g _ hg (by omega) (by omega)
/-! ### _law_pick -/
theorem scPck : FnScope ["box", "some"] ["box", "some"] (defScope sPck) := ⟨rfl, rfl, rfl, by decide +kernel, rfl, by decide +kernel, by decide +kernel⟩
def spPck : Sp := fun vs H Q _ => ∃ (b l : Addr) (xs : List V), vs = [.ref b, .ref l] ∧ Box H b ∧ H l = some (.lst xs) ∧ l ≠ b ∧ 0 < xs.length ∧ xs.length < 1000 ∧ ∀ (j : Nat) (v : V), xs[j]? = some v → Drw H b (fun H' => Q v H')
theorem ok_pck {f fT : Addr} {fd fdT : FuncData} (F : Fun K "_law_pick" "_law_pick" sPck f fd) (T : Tx K mg) (D : Df K mg "_law_take" sTak ["box", "many"] fT fdT) : FnOk Pg w K mg base CX0 2 f fd ["box", "some"] spPck := by
  have GD : FnOk Pg w K mg base CX0 1 fT fdT ["box", "many"] spTak := ok_tak D.F T
  refine F.ok scPck (fun vs H Q E h => ?_) (fun cdv A outer s H vs Q E hr h => ?_)
  · obtain ⟨_, _, _, rfl, _⟩ := h
    rfl
  · obtain ⟨b, l, xs, rfl, hb, hl, ne, h0, h1, kont⟩ := h
    refine ⟨_, pss_one (ps_ret (pe_ix ix_list (pv 1) (pe_call GD hr (by rfl) D.g D.F.kp D.b .nil pass0 (pa_cons (pv 0) (pa_cons (pe_callB call_len_seq (by rfl) T.len (by decide +kernel) (pa_cons (pv 1) pa_nil)) pa_nil))) (fun _ _ => rfl))), ?_⟩
    refine ⟨_, rfl, _, rfl, _, rfl, l, _, rfl, .inl (SqL.of hl), b, _, rfl, hb, by omega, by omega, fun r r0 r1 g z a1 a2 a3 => ?_⟩
    obtain ⟨j, rfl⟩ : ∃ j : Nat, r = (j : Int) := ⟨r.toNat, by omega⟩
    have hj : xs[j]? = some xs[j] := List.getElem?_eq_getElem (by omega)
    have hl' : upd H b (.lst [.int g, .int z]) l = some (.lst xs) := by
      rw [upd_ne ne]
      exact hl
    exact ⟨l, _, _, _, rfl, rfl, SqL.of hl', atI_nat hj, kont j _ hj g z a1 a2 a3⟩
end
end K6

set_option Elab.async false
set_option linter.all false
set_option maxRecDepth 100000
set_option maxHeartbeats 4000000
namespace K6
open PySem PySem.Spec PyProof.Rows L2 So SoFr SoC
theorem pe_weak {X : Cx} {e : Expr} {t t' : TE} (h : PE X e t) (i : ∀ σ H Q, t' σ H Q → t σ H Q) : PE X e t' := ⟨fun pins s σ H Q I q => h.run pins s σ H Q I (i σ H Q q)⟩
theorem pt_weak {X : Cx} {e : Expr} {t t' : TT} (h : PT X e t) (i : ∀ σ H Q, t' σ H Q → t σ H Q) : PT X e t' := ⟨fun pins s σ H Q I q => h.run pins s σ H Q I (i σ H Q q)⟩
theorem pa_weak {X : Cx} {es : List Expr} {t t' : TA} (h : PA X es t) (i : ∀ σ H Q, t' σ H Q → t σ H Q) : PA X es t' := ⟨fun pos pins s σ H Q I q => h.run pos pins s σ H Q I (i σ H Q q)⟩
/-! ### written data -/
/-- all that was tracked stands -/
def Xt (H H' : Hp) : Prop := ∀ b o, H b = some o → H' b = some o
theorem Xt.refl {H : Hp} : Xt H H := fun _ _ e => e
theorem Xt.trans {H H1 H2 : Hp} (a : Xt H H1) (b : Xt H1 H2) : Xt H H2 := fun c o e => b c o (a c o e)
theorem Xt.new {H : Hp} {p : Addr} {o : HO} (n : H p = none) : Xt H (upd H p o) := fun b u e => by
  rw [upd_ne (ne_of_none e n)]
  exact e
theorem Xt.free {H H' : Hp} {b : Addr} (x : Xt H H') (n : H' b = none) : H b = none := by
  cases e : H b with
  | none => rfl
  | some o => rw [x b o e] at n; cases n
theorem Xt.sm {P : Addr} {H H' : Hp} (x : Xt H H') (t : GxR.TabG H P) : Sm P H H' := by
  obtain ⟨ps, e, r⟩ := t
  exact ⟨fun b o _ q => x b o q, ps, x _ _ e, r⟩
mutual
theorem Dp.xt {K : PySem.W.Frag} {H H' : Hp} (x : Xt H H') : ∀ {D : PyData} {v : V}, Dp K H v D → Dp K H' v D
  | .none, _, h => by cases h; exact .non
  | .bool _, _, h => by cases h; exact .bl _
  | .int _, _, h => by cases h; exact .int _
  | .str _, _, h => by cases h; exact .str _
  | .list ds, _, h => by
    cases h with
    | lst a b => exact .lst (a.imp (fun q => q.imp (x _ _) fun ⟨o, q⟩ => ⟨o, x _ _ q⟩) _root_.id) (DpAll.xt x b)
  | .tuple ds, _, h => by
    cases h with
    | tup a b => exact .tup (a.imp (fun q => q.imp (x _ _) fun ⟨o, q⟩ => ⟨o, x _ _ q⟩) _root_.id) (DpAll.xt x b)
  | .dict _, _, h => by cases h
theorem DpAll.xt {K : PySem.W.Frag} {H H' : Hp} (x : Xt H H') : ∀ {ds : List PyData} {xs : List V}, DpAll K H xs ds → DpAll K H' xs ds
  | [], _, h => by cases h; exact .nil
  | d :: ds, _, h => by
    cases h with
    | cons a b => exact .cons (Dp.xt x a) (DpAll.xt x b)
end
/-- what is new in H' -/
def newP (H H' : Hp) : Hp := fun b => match H b with
  | none => H' b
  | some _ => none
theorem newP_of {H H' : Hp} {b : Addr} (n : H b = none) : newP H H' b = H' b := by
  unfold newP
  rw [n]
theorem newP_inv {H H' : Hp} {b : Addr} {o : HO} (h : newP H H' b = some o) : H b = none ∧ H' b = some o := by
  unfold newP at h
  cases e : H b with
  | none =>
    rw [e] at h
    exact ⟨rfl, h⟩
  | some u =>
    rw [e] at h
    cases h
theorem newP_later {H H1 H2 : Hp} (x : Xt H1 H2) : Xt (newP H H1) (newP H H2) := fun b o h => by
  obtain ⟨n, e⟩ := newP_inv h
  rw [newP_of n]
  exact x b o e
theorem newP_ahead {H H1 H2 : Hp} (x : Xt H H1) : Xt (newP H1 H2) (newP H H2) := fun b o h => by
  obtain ⟨n, e⟩ := newP_inv h
  rw [newP_of (x.free n)]
  exact e
theorem newP_all {H H' : Hp} : Xt (newP H H') H' := fun b o h => (newP_inv h).2
def tLit (K : PySem.W.Frag) (D : PyData) : TE := fun _ H Q => ∀ v H', Xt H H' → Dp K (newP H H') v D → Q v H'
def tLits (K : PySem.W.Frag) (Ds : List PyData) : TA := fun _ H Q => ∀ vs H', Xt H H' → DpAll K (newP H H') vs Ds → Q vs H'
section
variable {X : Cx} {e : Expr} {es : List Expr} {D : PyData} {Ds : List PyData} {x : Str} {i : Int} {b : Bool} {j k : Nat} {pos p : Pos}
theorem le_str : PE X (.Constant (.str x) j pos) (tLit X.K (.str x)) := pe_weak pe_str fun _ H _ h => h _ H Xt.refl (.str _)
theorem le_int : PE X (.Constant (.int i) j pos) (tLit X.K (.int i)) := pe_weak pe_int fun _ H _ h => h _ H Xt.refl (.int _)
theorem le_bl : PE X (.Constant (.bool b) j pos) (tLit X.K (.bool b)) := pe_weak pe_bl fun _ H _ h => h _ H Xt.refl (.bl _)
theorem le_non : PE X (.Constant .none j pos) (tLit X.K .none) := pe_weak pe_non fun _ H _ h => h _ H Xt.refl .non
theorem la_nil : PA X [] (tLits X.K []) := pa_weak pa_nil fun _ H _ h => h _ H Xt.refl .nil
theorem la_cons (h : PE X e (tLit X.K D)) (r : PA X es (tLits X.K Ds)) (hs : starEach (e :: es) X.env = (false, eval e X.env) :: starEach es X.env := by rfl) : PA X (e :: es) (tLits X.K (D :: Ds)) :=
  pa_weak (pa_cons h r hs) fun σ H Q q v H1 x1 d1 vs H2 x2 d2 => q _ H2 (x1.trans x2) (.cons (Dp.xt (newP_later x2) d1) (DpAll.xt (newP_ahead x1) d2))
theorem le_tup (h : PA X es (tLits X.K Ds)) (l : Ds.length ≤ sizeLine := by decide) : PE X (.Tuple es k pos) (tLit X.K (.tuple Ds)) :=
  pe_weak (pe_tup h) fun σ H Q q vs H1 x1 d1 => ⟨by rw [dpa_len d1]; exact l, fun a ha => q _ _ (x1.trans (Xt.new ha)) (.tup (.inl (.inl (by rw [newP_of (x1.free ha), upd_same]))) (DpAll.xt (newP_later (Xt.new ha)) d1))⟩
theorem le_lst (h : PA X es (tLits X.K Ds)) (l : Ds.length ≤ sizeLine := by decide) : PE X (.List es pos) (tLit X.K (.list Ds)) :=
  pe_weak (pe_lst h) fun σ H Q q vs H1 x1 d1 => ⟨by rw [dpa_len d1]; exact l, fun a ha => q _ _ (x1.trans (Xt.new ha)) (.lst (.inl (.inl (by rw [newP_of (x1.free ha), upd_same]))) (DpAll.xt (newP_later (Xt.new ha)) d1))⟩
end
/-! ### draws -/
/-- G and the draws' box at b -/
def BxG (G : Hp) (b : Addr) (H : Hp) : Prop := G b = none ∧ ∃ g s : Int, H = upd G b (.lst [.int g, .int s]) ∧ 0 ≤ g ∧ 0 ≤ s ∧ s ≤ 2147483563
theorem BxG.box {G H : Hp} {b : Addr} (h : BxG G b H) : Box H b := by
  obtain ⟨n, g, s, rfl, h⟩ := h
  exact ⟨g, s, upd_same, h⟩
theorem BxG.drw {G H : Hp} {b : Addr} {k : Hp → Prop} (h : BxG G b H) (q : ∀ H', BxG G b H' → k H') : Drw H b k := by
  obtain ⟨n, g, s, rfl, h⟩ := h
  intro g' s' h1 h2 h3
  rw [upd_upd]
  exact q _ ⟨n, g', s', rfl, h1, h2, h3⟩
theorem BxG.sub {G H : Hp} {b : Addr} (h : BxG G b H) : Xt G H := by
  obtain ⟨n, g, s, rfl, _⟩ := h
  exact Xt.new n
theorem del_back {H : Hp} {b : Addr} {o : HO} (e : H b = some o) : upd (del H b) b o = H := by
  funext c
  by_cases q : c = b
  · rw [q, upd_same, e]
  · rw [upd_ne q, del_ne q]
/-- behind what leaves the box -/
theorem BxG.xt {G H H' : Hp} {b : Addr} (h : BxG G b H) (x : Xt H H') : BxG (del H' b) b H' ∧ Xt G (del H' b) := by
  obtain ⟨n, g, s, rfl, h⟩ := h
  refine ⟨⟨del_same, g, s, (del_back (x _ _ upd_same)).symm, h⟩, fun c o e => ?_⟩
  have nb : c ≠ b := ne_of_none e n
  rw [del_ne nb]
  exact x _ _ (by rw [upd_ne nb]; exact e)
theorem BxG.lit {K : PySem.W.Frag} {G H H' : Hp} {b : Addr} {v : V} {D : PyData} (h : BxG G b H) (d : Dp K (newP H H') v D) : Dp K (del H' b) v D := by
  refine Dp.xt (fun c o e => ?_) d
  obtain ⟨n, e2⟩ := newP_inv e
  obtain ⟨_, g, s, rfl, _⟩ := h
  rw [del_ne (fun z => by rw [z, upd_same] at n; cases n)]
  exact e2
theorem BxG.sm {P : Addr} {G H H' : Hp} {b : Addr} (h : BxG G b H) (t : GxR.TabG G P) (s : Sm P H H') : BxG (del H' b) b H' ∧ Sm P G (del H' b) := by
  obtain ⟨n, g, s', rfl, h⟩ := h
  have bP : b ≠ P := nPt t n
  have e := s.1 b _ bP upd_same
  refine ⟨⟨del_same, g, s', (del_back e).symm, h⟩, ?_⟩
  have q := s.dels (l := b) bP
  rw [del_upd] at q
  have g0 : del G b = G := by
    funext c
    by_cases z : c = b
    · rw [z, del_same, n]
    · rw [del_ne z]
  rwa [g0] at q
theorem BxG.tab {P : Addr} {G H : Hp} {b : Addr} (h : BxG G b H) (t : GxR.TabG G P) : GxR.TabG H P := by
  obtain ⟨n, g, s, rfl, _⟩ := h
  exact (Sm.new t n).2
theorem BxG.new {G H : Hp} {b p : Addr} {o : HO} (h : BxG G b H) (n : H p = none) : G p = none ∧ BxG (upd G p o) b (upd H p o) := by
  obtain ⟨n0, g, s, rfl, h⟩ := h
  have pb : p ≠ b := fun z => by
    rw [z, upd_same] at n
    cases n
  rw [upd_ne pb] at n
  refine ⟨n, by rw [upd_ne (Ne.symm pb)]; exact n0, g, s, ?_, h⟩
  funext c
  by_cases q : c = p
  · rw [q, upd_same, upd_ne pb, upd_same]
  · rw [upd_ne q]
    by_cases q2 : c = b
    · rw [q2, upd_same, upd_same]
    · rw [upd_ne q2, upd_ne q2, upd_ne q]
theorem BxG.inv {G H : Hp} {b p : Addr} {o : HO} (h : BxG (upd G p o) b H) (n : G p = none) : ∃ H0, H = upd H0 p o ∧ BxG G b H0 ∧ H0 p = none := by
  obtain ⟨n0, g, s, rfl, h⟩ := h
  have pb : p ≠ b := fun z => by
    rw [z, upd_same] at n0
    cases n0
  rw [upd_ne (Ne.symm pb)] at n0
  refine ⟨upd G b (.lst [.int g, .int s]), ?_, ⟨n0, g, s, rfl, h⟩, by rw [upd_ne pb]; exact n⟩
  funext c
  by_cases q : c = b
  · rw [q, upd_same, upd_ne (Ne.symm pb), upd_same]
  · rw [upd_ne q]
    by_cases q2 : c = p
    · rw [q2, upd_same, upd_same]
    · rw [upd_ne q2, upd_ne q2, upd_ne q]
section
variable {Pg : Program} {w : World} {K : PySem.W.Frag} {mg : Str → Option Value} {base : Heap} {P : Addr}
def spTakG : Sp := fun vs H Q _ => ∃ (G : Hp) (b : Addr) (n : Int), vs = [.ref b, .int n] ∧ BxG G b H ∧ 0 < n ∧ n < 1000000000 ∧ ∀ (r : Nat) (H' : Hp), (r : Int) < n → BxG G b H' → Q (.int r) H'
theorem ok_takG {f : Addr} {fd : FuncData} (F : Fun K "_law_take" "_law_take" sTak f fd) (T : Tx K mg) : FnOk Pg w K mg base CX0 1 f fd ["box", "many"] spTakG :=
  (ok_tak F T).imp fun vs H Q E ⟨G, b, n, e, hb, h1, h2, k⟩ => ⟨b, n, e, hb.box, h1, h2, fun r h3 h4 => hb.drw fun H' hb' => by
    obtain ⟨m, rfl⟩ : ∃ m : Nat, r = (m : Int) := ⟨r.toNat, by omega⟩
    exact k m H' h4 hb'⟩
def spPckG (K : PySem.W.Frag) : Sp := fun vs H Q _ => ∃ (G : Hp) (b l : Addr) (xs : List V), vs = [.ref b, .ref l] ∧ BxG G b H ∧ SqL K G l xs ∧ 0 < xs.length ∧ xs.length < 1000 ∧ ∀ (j : Nat) (v : V) (H' : Hp), xs[j]? = some v → BxG G b H' → Q v H'
theorem sql_xt {H H' : Hp} {a : Addr} {xs : List V} (x : Xt H H') (h : SqL K H a xs) : SqL K H' a xs := h.imp (fun q => q.imp (x _ _) fun ⟨o, q⟩ => ⟨o, x _ _ q⟩) _root_.id
theorem sqt_xt {H H' : Hp} {a : Addr} {xs : List V} (x : Xt H H') (h : SqT K H a xs) : SqT K H' a xs := h.imp (fun q => q.imp (x _ _) fun ⟨o, q⟩ => ⟨o, x _ _ q⟩) _root_.id
theorem ok_pckG {f fT : Addr} {fd fdT : FuncData} (F : Fun K "_law_pick" "_law_pick" sPck f fd) (T : Tx K mg) (D : Df K mg "_law_take" sTak ["box", "many"] fT fdT) : FnOk Pg w K mg base CX0 2 f fd ["box", "some"] (spPckG K) := by
  have GD : FnOk Pg w K mg base CX0 1 fT fdT ["box", "many"] spTakG := ok_takG D.F T
  refine F.ok scPck (fun vs H Q E h => ?_) (fun cdv A outer s H vs Q E hr h => ?_)
  · obtain ⟨_, _, _, _, rfl, _⟩ := h
    rfl
  · obtain ⟨G, b, l, xs, rfl, hb, hl, h0, h1, kont⟩ := h
    refine ⟨_, pss_one (ps_ret (pe_ix ix_list (pv 1) (pe_call GD hr (by rfl) D.g D.F.kp D.b .nil pass0 (pa_cons (pv 0) (pa_cons (pe_callB call_len_seq (by rfl) T.len (by decide +kernel) (pa_cons (pv 1) pa_nil)) pa_nil))) (fun _ _ => rfl))), ?_⟩
    refine ⟨_, rfl, _, rfl, _, rfl, l, _, rfl, .inl (sql_xt hb.sub hl), G, b, _, rfl, hb, by omega, by omega, fun r H' hr hb' => ?_⟩
    have hj : xs[r]? = some xs[r] := List.getElem?_eq_getElem (by omega)
    exact ⟨l, _, _, _, rfl, rfl, sql_xt hb'.sub hl, atI_nat hj, kont r _ H' hj hb'⟩
end
end K6

set_option Elab.async false
set_option linter.all false
set_option maxRecDepth 100000
set_option maxHeartbeats 4000000
namespace K6
open PySem PySem.Spec PyProof.Rows L2 So SoFr SoC
/-! ### one list more -/
theorem upd_comm {H : Hp} {a b : Addr} {o u : HO} (n : a ≠ b) : upd (upd H a o) b u = upd (upd H b u) a o := by
  funext c
  by_cases q : c = a
  · rw [q, upd_ne n, upd_same, upd_same]
  · rw [upd_ne q]
    by_cases q2 : c = b
    · rw [q2, upd_same, upd_same]
    · rw [upd_ne q2, upd_ne q2, upd_ne q]
/-- texts as they are drawn -/
def okT (z : Str) : Prop := z.length ≤ 8 ∧ PyData.strOk z = true
theorem okT_D {z : Str} (h : okT z) : OkD (.str z) := okD_flat (Nat.le_trans h.1 (by decide)) h.2
section
variable {Pg : Program} {w : World} {K : PySem.W.Frag} {mg : Str → Option Value} {base : Heap} {P : Addr}
/-! ### _law_text -/
def smT : List Str := ["", "a", "x y", "\"", "\\", "<a>", "</a>", "Z", "\n", "9", "#", "z", "0", "!", "?"]
def sm4 (z : Str) : Bool := decide (z.length ≤ 4) && PyData.strOk z
theorem smT_ok : smT.all sm4 = true := by decide +kernel
theorem sm4_mem {z : Str} (h : z ∈ smT) : z.length ≤ 4 ∧ PyData.strOk z = true := by
  have q := List.all_eq_true.mp smT_ok z h
  unfold sm4 at q
  rw [Bool.and_eq_true, decide_eq_true_eq] at q
  exact q
theorem strOk_app {x y : Str} (h1 : PyData.strOk x = true) (h2 : PyData.strOk y = true) : PyData.strOk (x ++ y) = true := by
  unfold PyData.strOk at *
  show Array.all (x.cps ++ y.cps) _ = true
  rw [Array.all_append, h1, h2]
  rfl
theorem join2 : ∀ {ys : List Str}, ys.length ≤ 2 → (∀ y ∈ ys, y.length ≤ 4 ∧ PyData.strOk y = true) → okT (Txt.join "" ys)
  | [], _, _ => ⟨by decide, by decide +kernel⟩
  | [x], _, h => by
    obtain ⟨a, b⟩ := h x (List.mem_cons_self ..)
    exact ⟨Nat.le_trans a (by decide), b⟩
  | [x, y], _, h => by
    obtain ⟨a, b⟩ := h x (List.mem_cons_self ..)
    obtain ⟨c, d⟩ := h y (List.mem_cons_of_mem _ (List.mem_cons_self ..))
    show okT (x ++ "" ++ y)
    refine ⟨?_, strOk_app (strOk_app b (by decide +kernel)) d⟩
    show (x.cps ++ (("" : Str)).cps ++ y.cps).size ≤ 8
    rw [Array.size_append, Array.size_append]
    have e : (("" : Str)).cps.size = 0 := by decide +kernel
    have a' : x.cps.size ≤ 4 := a
    have c' : y.cps.size ≤ 4 := c
    omega
  | _ :: _ :: _ :: _, h, _ => absurd h (by simp)
theorem scLtx : FnScope ["box", "some", "turn"] ["box"] (defScope sLtx) := ⟨rfl, rfl, rfl, by decide +kernel, rfl, by decide +kernel, by decide +kernel⟩
def spLtx (P : Addr) : Sp := fun vs H Q _ => ∃ (G : Hp) (b : Addr), vs = [.ref b] ∧ GxR.TabG G P ∧ BxG G b H ∧ ∀ (z : Str) (G' H' : Hp), okT z → Sm P G G' → BxG G' b H' → Q (.str z) H'
theorem ok_ltx {f fT fP : Addr} {fd fdT fdP : FuncData} (F : Fun K "_law_text" "_law_text" sLtx f fd) (T : Tx K mg) (D : Df K mg "_law_take" sTak ["box", "many"] fT fdT) (Pk : Df K mg "_law_pick" sPck ["box", "some"] fP fdP) : FnOk Pg w K mg base CX0 3 f fd ["box"] (spLtx P) := by
  have GD : FnOk Pg w K mg base CX0 1 fT fdT ["box", "many"] spTakG := ok_takG D.F T
  have GP : FnOk Pg w K mg base CX0 2 fP fdP ["box", "some"] (spPckG K) := ok_pckG Pk.F T D
  refine F.ok scLtx (fun vs H Q E h => ?_) (fun cdv A outer s H vs Q E hr h => ?_)
  · obtain ⟨_, _, rfl, _⟩ := h
    rfl
  · obtain ⟨G, b, rfl, t, hb, k⟩ := h
    have hr1 : Room 1 _ := hr.mono (by decide)
    refine ⟨_, pss_cons (ps_set (i := 1) scLtx.nd rfl (Or.inr rfl) (pe_lst (pa_cons pe_str (pa_cons pe_str (pa_cons pe_str (pa_cons pe_str (pa_cons pe_str (pa_cons pe_str (pa_cons pe_str (pa_cons pe_str (pa_cons pe_str (pa_cons pe_str (pa_cons pe_str
        (pa_cons (pe_ix ix_str pe_str (pe_call GD hr1 (by rfl) D.g D.F.kp D.b .nil pass0 (pa_cons (pv 0) (pa_cons pe_int pa_nil))) (fun _ _ => rfl)) pa_nil))))))))))))))
      (pss_one (ps_ret (pe_join pe_str (pe_lc (own := [("turn", 2)]) (g := gName 2) (tt := tYes) rfl scLtx.nd (pi_range1 (by rfl) T.range (pa_cons (pe_call GD hr1 (by rfl) D.g D.F.kp D.b .nil pass0 (pa_cons (pv 0) (pa_cons pe_int pa_nil))) pa_nil)) (blkOk_by (N := ["box", "some", "turn"]) (sc := defScope sLtx) (by decide +kernel))
        (fun _ _ _ _ _ => pg_name (i := 2) scLtx.nd rfl (Or.inl rfl)) (fun _ _ _ _ _ => pts_nil) (fun _ _ _ _ _ => pe_call GP hr (by rfl) Pk.g Pk.F.kp Pk.b .nil pass0 (pa_cons (pv 0) (pa_cons (pv 1) pa_nil))))))), ?_⟩
    refine ⟨_, rfl, G, b, 4, rfl, hb, by decide, by decide, fun r H1 hr4 hb1 => ?_⟩
    obtain ⟨c, hc, hm⟩ : ∃ c, atI (("z0!?" : Str)).cps.toList (r : Int) = some c ∧ (⟨#[c]⟩ : Str) ∈ smT := by
      match r, hr4 with
      | 0, _ => exact ⟨122, rfl, by decide +kernel⟩
      | 1, _ => exact ⟨48, rfl, by decide +kernel⟩
      | 2, _ => exact ⟨33, rfl, by decide +kernel⟩
      | 3, _ => exact ⟨63, rfl, by decide +kernel⟩
    refine ⟨_, _, c, rfl, rfl, by decide, hc, (by show 12 ≤ sizeLine; decide), fun l hl => ?_⟩
    obtain ⟨nl, hb2⟩ := hb1.new (o := .lst (([("" : Str), "a", "x y", "\"", "\\", "<a>", "</a>", "Z", "\n", "9", "#"] ++ [(⟨#[c]⟩ : Str)]).map V.str)) hl
    have mem : ∀ y ∈ [("" : Str), "a", "x y", "\"", "\\", "<a>", "</a>", "Z", "\n", "9", "#"] ++ [(⟨#[c]⟩ : Str)], y ∈ smT := fun y hy => by
      rcases List.mem_append.mp hy with q | q
      · have sub : [("" : Str), "a", "x y", "\"", "\\", "<a>", "</a>", "Z", "\n", "9", "#"].all (fun y => decide (y ∈ smT)) = true := by decide +kernel
        exact of_decide_eq_true (List.all_eq_true.mp sub y q)
      · rw [List.mem_singleton.mp q]
        exact hm
    generalize hW : ([("" : Str), "a", "x y", "\"", "\\", "<a>", "</a>", "Z", "\n", "9", "#"] ++ [(⟨#[c]⟩ : Str)]) = W at hb2 mem
    have hWl : W.length = 12 := by rw [← hW]; rfl
    obtain ⟨G1, eG1⟩ : ∃ G1, G1 = upd G l (.lst (W.map V.str)) := ⟨_, rfl⟩
    have s1 : Sm P G G1 := by
      rw [eG1]
      exact Sm.new t nl
    have hl1 : G1 l = some (.lst (W.map V.str)) := by rw [eG1, upd_same]
    rw [← eG1] at hb2
    obtain ⟨H2, eH2⟩ : ∃ H2, H2 = upd H1 l (.lst (W.map V.str)) := ⟨_, rfl⟩
    rw [← eH2] at hb2
    have e12 : upd H1 l (.lst [.str "", .str "a", .str "x y", .str "\"", .str "\\", .str "<a>", .str "</a>", .str "Z", .str "\n", .str "9", .str "#", .str ⟨#[c]⟩]) = H2 := by
      rw [eH2, ← hW]
      rfl
    rw [e12]
    refine ⟨⟨_, rfl⟩, _, rfl, G1, b, 3, rfl, hb2, by decide, by decide, fun m H3 hm3 hb3 => ?_⟩
    refine ⟨_, rfl, by omega, by omega, fun D hD => ?_⟩
    have D0 : G1 D = none := hb3.sub.free hD
    refine lc_range (lo := 0) (n := m) (fun i H' => ∃ (H0 : Hp) (ys : List Str), H' = upd H0 D (.lst (ys.map V.str)) ∧ BxG G1 b H0 ∧ H0 D = none ∧ ys.length = i ∧ ∀ y ∈ ys, y ∈ smT) ⟨H3, [], rfl, hb3, hD, rfl, fun _ z => nomatch z⟩ ?_ ?_
    · rintro i H' hi ⟨H0, ys, rfl, hb0, n0, hys, hmem⟩
      obtain ⟨_, hbD⟩ := hb0.new (o := .lst (ys.map V.str)) n0
      have lD : l ≠ D := ne_of_none hl1 D0
      refine ⟨rfl, ?_⟩
      refine ⟨_, rfl, _, rfl, upd G1 D (.lst (ys.map V.str)), b, l, W.map V.str, rfl, hbD, .inl (.inl (by rw [upd_ne lD]; exact hl1)), by rw [List.length_map, hWl]; decide, by rw [List.length_map, hWl]; decide, fun j v H4 hj hb4 => ?_⟩
      obtain ⟨H5, rfl, hb5, n5⟩ := hb4.inv D0
      rw [List.getElem?_map] at hj
      obtain ⟨y, hy, rfl⟩ : ∃ y, W[j]? = some y ∧ V.str y = v := by
        cases e : W[j]? with
        | none =>
          rw [e] at hj
          cases hj
        | some y =>
          rw [e] at hj
          exact ⟨y, rfl, Option.some.inj hj⟩
      refine ⟨_, upd_same, by rw [List.length_map]; exact Nat.lt_of_le_of_lt (show ys.length ≤ 3 by omega) (by decide), H5, ys ++ [y], ?_, hb5, n5, by rw [List.length_append, hys]; rfl, fun z hz => ?_⟩
      · rw [upd_upd, List.map_append]
        rfl
      · rcases List.mem_append.mp hz with q | q
        · exact hmem z q
        · rw [List.mem_singleton.mp q]
          exact mem y (List.mem_of_getElem? hy)
    · rintro H' ⟨H0, ys, rfl, hb0, n0, hys, hmem⟩
      have four : ∀ y ∈ ys, y.length ≤ 4 ∧ PyData.strOk y = true := fun y hy => sm4_mem (hmem y hy)
      have l2 : ys.length ≤ 2 := by omega
      refine ⟨_, _, ys, rfl, rfl, .inl (.inl (.inl upd_same)), ?_, ?_⟩
      · have key : (ys.map (·.length)).sum ≤ ys.length * 4 := by
          clear l2 hys hmem hb0 n0
          induction ys with
          | nil => exact Nat.le_refl _
          | cons y r ih =>
            simp only [List.map_cons, List.sum_cons, List.length_cons]
            have := (four y (List.mem_cons_self ..)).1
            have := ih fun z hz => four z (List.mem_cons_of_mem _ hz)
            omega
        have e0 : (("" : Str)).length = 0 := by decide +kernel
        rw [e0]
        omega
      · obtain ⟨_, hbD⟩ := hb0.new (o := .lst (ys.map V.str)) n0
        exact k _ (upd G1 D (.lst (ys.map V.str))) _ (join2 l2 four) (s1.trans (Sm.new s1.2 D0)) hbD
end
end K6

set_option Elab.async false
set_option linter.all false
set_option maxRecDepth 100000
set_option maxHeartbeats 4000000
namespace K6
open PySem PySem.Spec PyProof.Rows L2 So SoFr SoC
/-! ### drawn documents -/
inductive Nd where
  | tx (z : Str) | el (l : Str) (ds : List Nd)
mutual
def ndD : Nd → PyData
  | .tx z => .tuple [.str "text", .str z]
  | .el l ds => .tuple [.str "element", .str l, .tuple (ndsD ds)]
def ndsD : List Nd → List PyData
  | [] => []
  | d :: r => ndD d :: ndsD r
end
mutual
def sgN : Nd → List PyData
  | .tx z => [.tuple [.str "text", .str z]]
  | .el l ds => (.tuple [.str "open", .str l] :: sgS ds) ++ [.tuple [.str "close"]]
def sgS : List Nd → List PyData
  | [] => []
  | d :: r => sgN d ++ sgS r
end
mutual
def hiN : Nd → Nat
  | .tx _ => 0
  | .el _ ds => hiS ds + 1
def hiS : List Nd → Nat
  | [] => 0
  | d :: r => max (hiN d) (hiS r)
end
def okL (l : Str) : Prop := l ∈ [("a" : Str), "b", "ab", "abcdefghijkl"]
mutual
def okN : Nd → Prop
  | .tx z => okT z
  | .el l ds => okL l ∧ ds.length ≤ 3 ∧ okS ds
def okS : List Nd → Prop
  | [] => True
  | d :: r => okN d ∧ okS r
end
theorem nds_map : ∀ ds : List Nd, ndsD ds = ds.map ndD
  | [] => by simp only [ndsD, List.map_nil]
  | d :: r => by simp only [ndsD, List.map_cons, nds_map r]
theorem okS_mem : ∀ {ds : List Nd}, okS ds → ∀ d ∈ ds, okN d
  | e :: r, h, d, hd => by
    simp only [okS] at h
    rcases List.mem_cons.mp hd with rfl | hd
    · exact h.1
    · exact okS_mem h.2 d hd
theorem okS_app : ∀ {as bs : List Nd}, okS as → okS bs → okS (as ++ bs)
  | [], _, _, h => h
  | e :: r, _, h, g => by
    simp only [okS] at h
    show okS (e :: (r ++ _))
    simp only [okS]
    exact ⟨h.1, okS_app h.2 g⟩
theorem hiS_app : ∀ {as bs : List Nd} {n : Nat}, hiS as ≤ n → hiS bs ≤ n → hiS (as ++ bs) ≤ n
  | [], _, _, _, h => h
  | e :: r, _, n, h, g => by
    simp only [hiS] at h
    show hiS (e :: (r ++ _)) ≤ n
    simp only [hiS]
    have := hiS_app (n := n) (show hiS r ≤ n by omega) g
    omega
theorem hiS_mem : ∀ {ds : List Nd}, ∀ d ∈ ds, hiN d ≤ hiS ds
  | e :: r, d, hd => by
    simp only [hiS]
    rcases List.mem_cons.mp hd with rfl | hd
    · exact Nat.le_max_left ..
    · exact Nat.le_trans (hiS_mem d hd) (Nat.le_max_right ..)
theorem sgS_app : ∀ (as bs : List Nd), sgS (as ++ bs) = sgS as ++ sgS bs
  | [], _ => by simp only [sgS, List.nil_append]
  | e :: r, bs => by
    show sgS (e :: (r ++ bs)) = _
    simp only [sgS, sgS_app r bs, List.append_assoc]
/-- how many signs there can be -/
def sgB : Nat → Nat
  | 0 => 1
  | n + 1 => 2 + 3 * sgB n
theorem sgB_mono : ∀ {n m : Nat}, n ≤ m → sgB n ≤ sgB m
  | 0, 0, _ => Nat.le_refl _
  | 0, m + 1, _ => by
    have := sgB_mono (Nat.zero_le m)
    simp only [sgB] at *
    omega
  | n + 1, m + 1, h => by
    have := sgB_mono (Nat.le_of_succ_le_succ h)
    simp only [sgB]
    omega
mutual
theorem sgN_len : ∀ (d : Nd), okN d → (sgN d).length ≤ sgB (hiN d)
  | .tx z, _ => by
    simp only [sgN, hiN, sgB]
    exact Nat.le_refl _
  | .el l ds, h => by
    simp only [okN] at h
    have := sgS_len ds h.2.2
    simp only [sgN, hiN, sgB, List.length_append, List.length_cons, List.length_nil]
    have l3 : ds.length * sgB (hiS ds) ≤ 3 * sgB (hiS ds) := Nat.mul_le_mul_right _ h.2.1
    omega
theorem sgS_len : ∀ (ds : List Nd), okS ds → (sgS ds).length ≤ ds.length * sgB (hiS ds)
  | [], _ => by simp only [sgS, List.length_nil]; omega
  | d :: r, h => by
    simp only [okS] at h
    have h1 := sgN_len d h.1
    have h2 := sgS_len r h.2
    simp only [sgS, hiS, List.length_append, List.length_cons, Nat.succ_mul]
    have m1 : sgB (hiN d) ≤ sgB (max (hiN d) (hiS r)) := sgB_mono (Nat.le_max_left ..)
    have m2 : r.length * sgB (hiS r) ≤ r.length * sgB (max (hiN d) (hiS r)) := Nat.mul_le_mul_left _ (sgB_mono (Nat.le_max_right ..))
    omega
end
section
variable {Pg : Program} {w : World} {K : PySem.W.Frag} {mg : Str → Option Value} {base : Heap} {P : Addr}
/-! ### _law_document -/
theorem lab4 {l : Str} (h : l ∈ [("a" : Str), "b", "ab", "abcdefghijkl"]) : okL l := h
abbrev nLdc : List Str := ["box", "within", "found", "turn", "label"]
theorem scLdc : FnScope nLdc ["box", "within"] (defScope sLdc) := ⟨rfl, rfl, rfl, by decide +kernel, rfl, by decide +kernel, by decide +kernel⟩
def spLdc (K : PySem.W.Frag) (P : Addr) (h : Nat) : Sp := fun vs H Q _ => ∃ (G : Hp) (b : Addr) (n : Nat), vs = [.ref b, .int (n : Int)] ∧ n < h ∧ GxR.TabG G P ∧ BxG G b H ∧ ∀ (ds : List Nd) (v : V) (G' H' : Hp), okS ds → ds.length ≤ 3 → hiS ds ≤ n → Sm P G G' → BxG G' b H' → Dp K G' v (.tuple (ndsD ds)) → Q v H'
theorem ok_ldc {f fT fP fX : Addr} {fd fdT fdP fdX : FuncData} (F : Fun K "_law_document" "_law_document" sLdc f fd) (T : Tx K mg) (R : Df K mg "_law_document" sLdc ["box", "within"] f fd) (D : Df K mg "_law_take" sTak ["box", "many"] fT fdT) (Pk : Df K mg "_law_pick" sPck ["box", "some"] fP fdP)
    (X : Df K mg "_law_text" sLtx ["box"] fX fdX) : ∀ h, FnOk Pg w K mg base CX0 (h + 4) f fd ["box", "within"] (spLdc K P h)
  | 0 => by
    refine F.ok scLdc (fun vs H Q E h => ?_) (fun cdv A' outer s H vs Q E hr h => ?_)
    · obtain ⟨_, _, _, rfl, _⟩ := h
      rfl
    · obtain ⟨_, _, _, _, z, _⟩ := h
      exact absurd z (Nat.not_lt_zero _)
  | h + 1 => by
    have GR : FnOk Pg w K mg base CX0 (h + 4) f fd ["box", "within"] (spLdc K P h) := ok_ldc F T R D Pk X h
    have GD : FnOk Pg w K mg base CX0 1 fT fdT ["box", "many"] spTakG := ok_takG D.F T
    have GP : FnOk Pg w K mg base CX0 2 fP fdP ["box", "some"] (spPckG K) := ok_pckG Pk.F T D
    have GX : FnOk Pg w K mg base CX0 3 fX fdX ["box"] (spLtx P) := ok_ltx X.F T D Pk
    refine F.ok scLdc (fun vs H Q E h => ?_) (fun cdv A' outer s H vs Q E hr h => ?_)
    · obtain ⟨_, _, _, rfl, _⟩ := h
      rfl
    obtain ⟨G, b, n, rfl, hn, t, hb, k⟩ := h
    have hr1 : Room 1 _ := hr.mono (by omega)
    have hr2 : Room 2 _ := hr.mono (by omega)
    have hr3 : Room 3 _ := hr.mono (by omega)
    refine ⟨_, pss_cons (ps_set (i := 2) scLdc.nd rfl (Or.inl rfl) (pe_lst pa_nil))
      (pss_cons (ps_for PassesOwn.never rfl (pi_range1 (by rfl) T.range (pa_cons (pe_callH GD hr1 (by rfl) D.g D.F.kp D.b (pa_cons (pv 0) (pa_cons pe_int pa_nil))) pa_nil)) (pg_name (i := 3) scLdc.nd rfl (Or.inl rfl))
        (pss_one (ps_if (PW.pt (pw_or (pt_cmpR op_eq (pv 1) pe_int (nomark _)) (pw_or1 (pt_cmpR op_eq (pe_callH GD hr1 (by rfl) D.g D.F.kp D.b (pa_cons (pv 0) (pa_cons pe_int pa_nil))) pe_int (nomark _)))))
          (pss_one (ps_expr (pe_bm PySem.F.plainAttrs_list PySem.F.slot_list_append PySem.F.type_list_append mt_append (pv 2) (pa_cons (pe_tup (pa_cons pe_str (pa_cons (pe_callH GX hr3 (by rfl) X.g X.F.kp X.b (pa_cons (pv 0) pa_nil)) pa_nil))) pa_nil))))
          (pss_cons (ps_set (i := 4) scLdc.nd rfl (Or.inl rfl) (pe_callH GP hr2 (by rfl) Pk.g Pk.F.kp Pk.b (pa_cons (pv 0) (pa_cons (pe_lst (pa_cons pe_str (pa_cons pe_str (pa_cons pe_str (pa_cons pe_str pa_nil))))) pa_nil))))
          (pss_one (ps_expr (pe_bm PySem.F.plainAttrs_list PySem.F.slot_list_append PySem.F.type_list_append mt_append (pv 2) (pa_cons (pe_tup (pa_cons pe_str (pa_cons (pv 4) (pa_cons (pe_callH GR hr (by rfl) R.g R.F.kp R.b (pa_cons (pv 0) (pa_cons (pe_op op_sub (pv 1) pe_int) pa_nil))) pa_nil)))) pa_nil))))))))
      (pss_one (ps_ret (pe_tupleOf (by rfl) T.tuple (pv 2))))), ?_⟩
    refine ⟨Nat.zero_le _, fun l hl => ?_⟩
    refine ⟨_, rfl, hide_one hl ⟨G, b, 4, rfl, hb, by decide, by decide, fun m H1 hm4 hb1 nl1 => ?_⟩⟩
    refine ⟨_, rfl, by omega, by omega, for_range (lo := 0) (n := m) (fun i σ H' => ∃ (v3 v4 : Option V) (G0 H0 : Hp) (ys : List V) (ds : List Nd), σ = [some (.ref b), some (.int (n : Int)), some (.ref l), v3, v4] ∧ H' = upd H0 l (.lst ys) ∧ H0 l = none ∧ Sm P G G0 ∧ BxG G0 b H0 ∧
      DpAll K G0 ys (ndsD ds) ∧ ds.length = i ∧ okS ds ∧ hiS ds ≤ n) ⟨none, none, G, H1, [], [], rfl, rfl, nl1, Sm.refl t, hb1, by simp only [ndsD]; exact .nil, rfl, by simp only [okS], by simp only [hiS]; exact Nat.zero_le _⟩ ?_ ?_⟩
    · rintro i σ H' hi ⟨v3, v4, G0, H0, ys, ds, rfl, rfl, n0, s0, hb0, hys, hds, hok, hhi⟩
      have small : ys.length < sizeLine := by
        rw [dpa_len hys, nds_map, List.length_map]
        exact Nat.lt_of_le_of_lt (show ds.length ≤ 3 by omega) (by decide)
      have put : ∀ (G2 H2 : Hp) (p : Addr) (xs : List V) (Xs : List PyData) (d : Nd) (v4 : Option V), Sm P G0 G2 → BxG G2 b H2 → H2 l = none → DpAll K G2 xs Xs → upd H2 l (.lst ys) p = none → ndD d = .tuple Xs → okN d → hiN d ≤ n →
          ∃ (v3' v4' : Option V) (G0' H0' : Hp) (ys' : List V) (ds' : List Nd), [some (.ref b), some (.int (n : Int)), some (.ref l), some (.int (0 + (i : Int))), v4] = [some (.ref b), some (.int (n : Int)), some (.ref l), v3', v4'] ∧
            upd (upd (upd H2 l (.lst ys)) p (.tup xs)) l (.lst (ys ++ [.ref p])) = upd H0' l (.lst ys') ∧ H0' l = none ∧ Sm P G G0' ∧ BxG G0' b H0' ∧ DpAll K G0' ys' (ndsD ds') ∧ ds'.length = i + 1 ∧ okS ds' ∧ hiS ds' ≤ n := by
        intro G2 H2 p xs Xs d v4 s2 hb2 n2 hxs hp hd okd hid
        have pl : p ≠ l := fun z => by
          rw [z, upd_same] at hp
          cases hp
        rw [upd_ne pl] at hp
        obtain ⟨np, hbp⟩ := hb2.new (o := .tup xs) hp
        have s3 : Sm P G0 (upd G2 p (.tup xs)) := s2.trans (Sm.new s2.2 np)
        refine ⟨_, _, upd G2 p (.tup xs), upd H2 p (.tup xs), ys ++ [.ref p], ds ++ [d], rfl, ?_, by rw [upd_ne (Ne.symm pl)]; exact n2, s0.trans s3, hbp, ?_, by rw [List.length_append, hds]; rfl, okS_app hok (by simp only [okS]; exact ⟨okd, trivial⟩), hiS_app hhi (by simp only [hiS]; omega)⟩
        · rw [upd_comm (Ne.symm pl), upd_upd]
        · rw [nds_map, List.map_append, ← nds_map]
          refine dpa_app (DpAll.mono s0.2 s3 hys) ?_
          rw [List.map_cons, List.map_nil, hd]
          exact .cons (.tup (.inl (.inl upd_same)) (DpAll.mono s2.2 (Sm.new s2.2 np) hxs)) .nil
      have text : ∀ (H2 : Hp), BxG G0 b H2 → H2 l = none → tBM K "list" rAppend (tVar 2) (tCons (tTup (tCons (tC (.str "text")) (tCons (tCallH (spLtx P) (tCons (tVar 0) tNil)) tNil))) tNil)
          [some (.ref b), some (.int (n : Int)), some (.ref l), some (.int (0 + (i : Int))), v4] (upd H2 l (.lst ys)) (fun _ H3 => ∃ (v3' v4' : Option V) (G0' H0' : Hp) (ys' : List V) (ds' : List Nd), [some (.ref b), some (.int (n : Int)), some (.ref l), some (.int (0 + (i : Int))), v4] = [some (.ref b), some (.int (n : Int)), some (.ref l), v3', v4'] ∧
            H3 = upd H0' l (.lst ys') ∧ H0' l = none ∧ Sm P G G0' ∧ BxG G0' b H0' ∧ DpAll K G0' ys' (ndsD ds') ∧ ds'.length = i + 1 ∧ okS ds' ∧ hiS ds' ≤ n) := by
        intro H2 hb2 n2
        refine ⟨_, rfl, .inl ⟨rfl, _, .inl (.inl upd_same)⟩, _, rfl, hide_one n2 ⟨G0, b, rfl, s0.2, hb2, fun z G3 H3 oz s3 hb3 n3 => ?_⟩⟩
        refine ⟨(by show 2 ≤ sizeLine; decide), fun p hp => ?_⟩
        have pl : p ≠ l := fun z => by
          rw [z, upd_same] at hp
          cases hp
        exact ⟨l, ys, _, rfl, rfl, by rw [upd_ne (Ne.symm pl), upd_same], small, put G3 H3 p _ _ (.tx z) v4 s3 hb3 n3 (.cons (.str _) (.cons (.str _) .nil)) hp (by simp only [ndD]) (by simp only [okN]; exact oz) (by simp only [hiN]; omega)⟩
      refine ⟨_, rfl, rfl, _, rfl, ?_⟩
      by_cases z : n = 0
      · rw [decide_eq_true (show V.int (n : Int) = V.int 0 by rw [z]; rfl)]
        exact text H0 hb0 n0
      · rw [decide_eq_false (show ¬ V.int (n : Int) = V.int 0 from fun q => z (by have := V.int.inj q; omega))]
        refine ⟨_, rfl, hide_one n0 ⟨G0, b, 2, rfl, hb0, by decide, by decide, fun r H2 hr2 hb2 n2 => ⟨rfl, _, rfl, ?_⟩⟩⟩
        by_cases z2 : r = 0
        · rw [decide_eq_true (show V.int (r : Int) = V.int 0 by rw [z2]; rfl)]
          exact text H2 hb2 n2
        · rw [decide_eq_false (show ¬ V.int (r : Int) = V.int 0 from fun q => z2 (by have := V.int.inj q; omega))]
          refine ⟨_, rfl, (by show 4 ≤ sizeLine; decide), fun q hq => ?_⟩
          have ql : q ≠ l := fun z => by
            rw [z, upd_same] at hq
            cases hq
          rw [upd_ne ql] at hq
          rw [upd_comm (Ne.symm ql)]
          obtain ⟨nq, hbq⟩ := hb2.new (o := .lst ([("a" : Str), "b", "ab", "abcdefghijkl"].map V.str)) hq
          have sq := Sm.new s0.2 nq (o := .lst ([("a" : Str), "b", "ab", "abcdefghijkl"].map V.str))
          refine hide_one (by rw [upd_ne (Ne.symm ql)]; exact n2) ⟨_, b, q, _, rfl, hbq, .inl (.inl upd_same), by decide, by decide, fun j v H3 hj hb3 n3 => ?_⟩
          rw [List.getElem?_map] at hj
          obtain ⟨y, hy, rfl⟩ : ∃ y, [("a" : Str), "b", "ab", "abcdefghijkl"][j]? = some y ∧ V.str y = v := by
            cases e : [("a" : Str), "b", "ab", "abcdefghijkl"][j]? with
            | none =>
              rw [e] at hj
              cases hj
            | some y =>
              rw [e] at hj
              exact ⟨y, rfl, Option.some.inj hj⟩
          have oy := lab4 (List.mem_of_getElem? hy)
          refine ⟨_, rfl, .inl ⟨rfl, _, .inl (.inl upd_same)⟩, _, rfl, _, rfl, _, rfl, _, _, rfl, rfl, ?_⟩
          obtain ⟨n', rfl⟩ : ∃ n', n = n' + 1 := ⟨n - 1, by omega⟩
          refine hide_one n3 ⟨_, b, n', by show [V.ref b, V.int (((n' + 1 : Nat) : Int) - 1)] = _; rw [show (((n' + 1 : Nat) : Int) - 1) = (n' : Int) by omega], by omega, sq.2, hb3, fun es v G4 H4 oes les hes s4 hb4 d4 n4 => ?_⟩
          refine ⟨(by show 3 ≤ sizeLine; decide), fun p hp => ?_⟩
          have pl : p ≠ l := fun z => by
            rw [z, upd_same] at hp
            cases hp
          exact ⟨l, ys, _, rfl, rfl, by rw [upd_ne (Ne.symm pl), upd_same], small, put G4 H4 p _ _ (.el y es) (some (.str y)) (sq.trans s4) hb4 n4 (.cons (.str _) (.cons (.str _) (.cons d4 .nil))) hp (by simp only [ndD]) (by simp only [okN]; exact ⟨oy, les, oes⟩) (by simp only [hiN]; omega)⟩
    · rintro σ H' ⟨v3, v4, G0, H0, ys, ds, rfl, rfl, n0, s0, hb0, hys, hds, hok, hhi⟩
      obtain ⟨_, hbl⟩ := hb0.new (o := .lst ys) n0
      have nG0 : G0 l = none := hb0.sub.free n0
      refine ⟨_, rfl, .inl ⟨l, ys, rfl, .inl (.inl upd_same), fun p hp => ?_⟩⟩
      obtain ⟨np, hbp⟩ := hbl.new (o := .tup ys) hp
      have s1 := Sm.new s0.2 nG0 (o := .lst ys)
      have s2 := s1.trans (Sm.new s1.2 np (o := .tup ys))
      exact k ds _ _ _ hok (by omega) hhi (s0.trans s2) hbp (.tup (.inl (.inl upd_same)) (DpAll.mono s0.2 s2 hys))
end
end K6

set_option Elab.async false
set_option linter.all false
set_option maxRecDepth 100000
set_option maxHeartbeats 4000000
namespace K6
open PySem PySem.Spec PyProof.Rows L2 So SoFr SoC
/-! ### one tuple behind the other -/
def rCatS (K : PySem.W.Frag) (P : Addr) : R2 := fun x y H Q => ∃ xs ys, Dp K H x (.tuple xs) ∧ Dp K H y (.tuple ys) ∧ xs.length + ys.length ≤ sizeLine ∧ GxR.TabG H P ∧ ∀ v H', Sm P H H' → Dp K H' v (.tuple (xs ++ ys)) → Q v H'
theorem op_catS {X : Cx} {P : Addr} : OpR X (binaryOp Operator.Add) (rCatS X.K P) := by
  intro pins s σ H x y v u Q J h1 h2 ⟨xs, ys, dx, dy, hl, t, q⟩
  have h : OpR X (binaryOp Operator.Add) (rCatA X.K) := op_catA
  cases dx with
  | @tup a vs _ ha hvs =>
    cases dy with
    | @tup b us _ hb hus =>
      refine h pins s σ H _ _ v u Q J h1 h2 ⟨_, _, vs, us, rfl, rfl, ha, hb, by rw [dpa_len hvs, dpa_len hus]; exact hl, fun e => ?_, fun _ e => ?_, fun _ _ p hp => ?_⟩
      · subst e
        cases hvs
        exact q _ _ (Sm.refl t) (.tup hb hus)
      · subst e
        cases hus
        exact q _ _ (Sm.refl t) (by rw [List.append_nil]; exact .tup ha hvs)
      · exact q _ _ (Sm.new t hp) (.tup (.inl (.inl upd_same)) (dpa_app (DpAll.mono t (Sm.new t hp) hvs) (DpAll.mono t (Sm.new t hp) hus)))
section
variable {Pg : Program} {w : World} {K : PySem.W.Frag} {mg : Str → Option Value} {base : Heap} {P : Addr}
/-! ### _law_signs -/
theorem sgS_take {ds : List Nd} {i : Nat} {d : Nd} (h : ds[i]? = some d) : sgS (ds.take (i + 1)) = sgS (ds.take i) ++ sgN d := by
  rw [take_snoc h, sgS_app]
  simp only [sgS, List.append_nil]
theorem sgS_take_le (ds : List Nd) (i : Nat) : (sgS (ds.take i)).length ≤ (sgS ds).length := by
  have e : sgS ds = sgS (ds.take i) ++ sgS (ds.drop i) := by rw [← sgS_app, List.take_append_drop]
  rw [e, List.length_append]
  omega
theorem scLsg : FnScope ["document", "found", "node"] ["document"] (defScope sLsg) := ⟨rfl, rfl, rfl, by decide +kernel, rfl, by decide +kernel, by decide +kernel⟩
def spLsg (K : PySem.W.Frag) (P : Addr) (h : Nat) : Sp := fun vs H Q _ => ∃ (v : V) (ds : List Nd), vs = [v] ∧ GxR.TabG H P ∧ Dp K H v (.tuple (ndsD ds)) ∧ hiS ds < h ∧ (sgS ds).length ≤ 1000 ∧ ∀ v H', Sm P H H' → Dp K H' v (.tuple (sgS ds)) → Q v H'
theorem ok_lsg {f : Addr} {fd : FuncData} (F : Fun K "_law_signs" "_law_signs" sLsg f fd) (R : Df K mg "_law_signs" sLsg ["document"] f fd) : ∀ h, FnOk Pg w K mg base CX0 (h + 1) f fd ["document"] (spLsg K P h)
  | 0 => by
    refine F.ok scLsg (fun vs H Q E h => ?_) (fun cdv A' outer s H vs Q E hr h => ?_)
    · obtain ⟨_, _, rfl, _⟩ := h
      rfl
    · obtain ⟨_, _, _, _, _, z, _⟩ := h
      exact absurd z (Nat.not_lt_zero _)
  | h + 1 => by
    have G : FnOk Pg w K mg base CX0 (h + 1) f fd ["document"] (spLsg K P h) := ok_lsg F R h
    refine F.ok scLsg (fun vs H Q E h => ?_) (fun cdv A' outer s H vs Q E hr h => ?_)
    · obtain ⟨_, _, rfl, _⟩ := h
      rfl
    obtain ⟨v, ds, rfl, t, hv, hh, hlen, k⟩ := h
    refine ⟨_, (pss_cons (ps_set (i := 1) scLsg.nd rfl (Or.inl rfl) (pe_tup pa_nil))
      (pss_cons (ps_for PassesOwn.never rfl (pi_tup (pv 0)) (pg_name (i := 2) scLsg.nd rfl (Or.inl rfl)) (pss_one (ps_if (pt_cmpR op_eq (pe_ix ix_tup (pv 2) pe_int (fun _ _ => rfl)) pe_str (nomark _))
          (pss_one (ps_set (i := 1) scLsg.nd rfl (Or.inl rfl) (pe_op (op_catS (P := P)) (pv 1) (pe_tup (pa_cons (pv 2) pa_nil)))))
          (pss_one (ps_set (i := 1) scLsg.nd rfl (Or.inl rfl) (pe_op (op_catS (P := P)) (pe_op (op_catS (P := P)) (pe_op (op_catS (P := P)) (pv 1) (pe_tup (pa_cons (pe_tup (pa_cons pe_str (pa_cons (pe_ix ix_tup (pv 2) pe_int (fun _ _ => rfl)) pa_nil))) pa_nil))) (pe_call G hr (by rfl) R.g R.F.kp R.b .nil pass0 (pa_cons (pe_ix ix_tup (pv 2) pe_int (fun _ _ => rfl)) pa_nil))) (pe_tup (pa_cons (pe_tup (pa_cons pe_str pa_nil)) pa_nil))))))))
      (pss_one (ps_ret (pv 1))))), ?_⟩
    obtain ⟨d, xs, rfl, hd, hds⟩ : ∃ d xs, v = .ref d ∧ SqT K H d xs ∧ DpAll K H xs (ndsD ds) := by
      cases hv with
      | tup a b => exact ⟨_, _, rfl, a, b⟩
    have lds : xs.length = ds.length := by rw [dpa_len hds, nds_map, List.length_map]
    have small : ∀ {m : Nat}, m ≤ 5000 → m ≤ sizeLine := fun h => Nat.le_trans h (by decide)
    refine ⟨Nat.zero_le _, fun F0 hF0 => ?_⟩
    have s0 : Sm P H (upd H F0 (.tup [])) := Sm.new t hF0
    refine ⟨_, rfl, d, rfl, ⟨xs, s0.tup t hd⟩, for_tup (xs := xs) (fun i σ H' => ∃ (vf : V) (v2 : Option V), σ = [some (.ref d), some vf, v2] ∧ Sm P H H' ∧ Dp K H' vf (.tuple (sgS (ds.take i))))
      ⟨_, none, rfl, s0, by simp only [List.take_zero, sgS]; exact .tup (.inl (.inl upd_same)) .nil⟩ (fun i σ H' _ ⟨_, _, _, s, _⟩ => s.tup t hd) ?_ ?_⟩
    · rintro i x σ H' hx ⟨vf, v2, rfl, s1, hp⟩
      obtain ⟨D, hD, hnx⟩ := dpa_at hds hx
      rw [nds_map, List.getElem?_map] at hD
      obtain ⟨n, hn, rfl⟩ : ∃ n, ds[i]? = some n ∧ ndD n = D := by
        cases e : ds[i]? with
        | none =>
          rw [e] at hD
          cases hD
        | some y =>
          rw [e] at hD
          exact ⟨y, rfl, Option.some.inj hD⟩
      have hnx1 := Dp.mono t s1 hnx
      have ly : (sgS (ds.take i)).length ≤ 1000 := Nat.le_trans (sgS_take_le ds i) hlen
      have ly1 : (sgS (ds.take i)).length + (sgN n).length ≤ 1000 := by
        rw [← List.length_append, ← sgS_take hn]
        exact Nat.le_trans (sgS_take_le ds (i + 1)) hlen
      have last : ∀ (v' : V) (H2 : Hp), Sm P H' H2 → Dp K H2 v' (.tuple (sgS (ds.take i) ++ sgN n)) → ∃ (vf : V) (v2 : Option V), [some (.ref d), some v', some x] = [some (.ref d), some vf, v2] ∧ Sm P H H2 ∧ Dp K H2 vf (.tuple (sgS (ds.take (i + 1)))) := by
        intro v' H2 s2 d2
        exact ⟨_, _, rfl, s1.trans s2, by rw [sgS_take hn]; exact d2⟩
      cases n with
      | tx z =>
        simp only [ndD, sgN] at hnx1 last ly1
        have hnx2 := hnx1
        cases hnx2 with
        | @tup q ys _ hq hys =>
          obtain ⟨y0, h0, e0⟩ := dpa_at' hys (i := 0) rfl
          cases e0
          refine ⟨_, rfl, q, _, _, _, rfl, rfl, hq, atI_nat (j := 0) h0, rfl, _, rfl, iteT ?_⟩
          refine ⟨_, rfl, _, rfl, small (by show 1 ≤ 5000; decide), fun p hp' => ?_⟩
          have s2 := Sm.new s1.2 hp' (o := .tup [.ref q])
          refine ⟨_, _, Dp.mono s1.2 s2 hp, .tup (.inl (.inl upd_same)) (.cons (Dp.mono s1.2 s2 hnx1) .nil), small (by simp only [List.length_cons, List.length_nil]; omega), s2.2, fun v' H3 s3 d3 => ?_⟩
          exact last v' H3 (s2.trans s3) d3
      | el l es =>
        have hhi : hiS es < h := by
          have := hiS_mem _ (List.mem_of_getElem? hn)
          simp only [hiN] at this
          omega
        simp only [ndD, sgN, List.length_append, List.length_cons, List.length_nil] at hnx1 last ly1
        have hnx2 := hnx1
        cases hnx2 with
        | @tup q ys _ hq hys =>
          obtain ⟨y0, h0, e0⟩ := dpa_at' hys (i := 0) rfl
          obtain ⟨y1, h1, e1⟩ := dpa_at' hys (i := 1) rfl
          obtain ⟨y2, h2, e2⟩ := dpa_at' hys (i := 2) rfl
          cases e0
          cases e1
          refine ⟨_, rfl, q, _, _, _, rfl, rfl, hq, atI_nat (j := 0) h0, rfl, _, rfl, iteF ?_⟩
          refine ⟨_, rfl, _, rfl, q, _, _, _, rfl, rfl, hq, atI_nat (j := 1) h1, small (by show 2 ≤ 5000; decide), fun p hp' => ⟨small (by show 1 ≤ 5000; decide), fun p2 hp2 => ?_⟩⟩
          have s2 := Sm.new s1.2 hp' (o := .tup [.str "open", .str l])
          have s3 := s2.trans (Sm.new s2.2 hp2 (o := .tup [.ref p]))
          refine ⟨_, _, Dp.mono s1.2 s3 hp, .tup (.inl (.inl upd_same)) (.cons (.tup (.inl (.inl (by rw [upd_ne (ne_of_none upd_same hp2), upd_same]))) (.cons (.str _) (.cons (.str _) .nil))) .nil), small (by simp only [List.length_cons, List.length_nil]; omega), s3.2, fun v4 H4 s4 d4 => ?_⟩
          have s14 := s3.trans s4
          refine ⟨_, rfl, q, _, _, _, rfl, rfl, s14.tup s1.2 hq, atI_nat (j := 2) h2, _, es, rfl, s14.2, Dp.mono s1.2 s14 e2, hhi, by omega, fun v5 H5 s5 d5 => ?_⟩
          refine ⟨_, _, Dp.mono s14.2 s5 d4, d5, small (by simp only [List.length_append, List.length_cons, List.length_nil]; omega), s5.2, fun v6 H6 s6 d6 => ?_⟩
          refine ⟨small (by show 1 ≤ 5000; decide), fun p7 hp7 => ⟨small (by show 1 ≤ 5000; decide), fun p8 hp8 => ?_⟩⟩
          have s7 := Sm.new s6.2 hp7 (o := .tup [.str "close"])
          have s8 := s7.trans (Sm.new s7.2 hp8 (o := .tup [.ref p7]))
          refine ⟨_, _, Dp.mono s6.2 s8 d6, .tup (.inl (.inl upd_same)) (.cons (.tup (.inl (.inl (by rw [upd_ne (ne_of_none upd_same hp8), upd_same]))) (.cons (.str _) .nil)) .nil), small (by simp only [List.length_append, List.length_cons, List.length_nil]; omega), s8.2, fun v9 H9 s9 d9 => ?_⟩
          refine last v9 H9 (s14.trans (s5.trans (s6.trans (s8.trans s9)))) ?_
          have e : sgS (List.take i ds) ++ (PyData.tuple [PyData.str "open", PyData.str l] :: sgS es ++ [PyData.tuple [PyData.str "close"]]) = sgS (List.take i ds) ++ [PyData.tuple [PyData.str "open", PyData.str l]] ++ sgS es ++ [PyData.tuple [PyData.str "close"]] := by simp only [List.append_assoc, List.cons_append, List.nil_append]
          rw [e]
          exact d9
    · rintro σ H' ⟨vf, v2, rfl, s1, hp⟩
      rw [lds, List.take_length] at hp
      exact ⟨_, rfl, k _ _ s1 hp⟩
end
end K6

set_option Elab.async false
set_option linter.all false
set_option maxRecDepth 100000
set_option maxHeartbeats 4000000
namespace K6
open PySem PySem.Spec PyProof.Rows L2 So SoFr SoC
theorem ps_weak {X : Cx} {e : Stmt} {t t' : TS} (h : PS X e t) (i : ∀ D σ H, t' D σ H → t D σ H) : PS X e t' := ⟨fun pins s σ H D I q => h.run pins s σ H D I (i D σ H q)⟩
/-! ### the law's own reading of a sign -/
def lblL (z : Str) : Bool := decide ((0 : Int) < (z.length : Int)) && (decide ((z.length : Int) < 13) && (Txt.islower z && Txt.isalpha z))
def oneStr : List PyData → Option Str
  | [.str z] => some z
  | _ => none
def hdS (d : PyData) : Bool := isSq d && (match itD d with
  | a :: _ => isStr a
  | [] => false)
def gd (d : PyData) (many : Int) : Bool := hdS d && (match itD d with
  | a :: r => if isS a "open" = true then (match oneStr r with
    | some y => lblL y
    | none => false) else if isS a "text" = true then (oneStr r).isSome else isS a "close" && (r.isEmpty && decide (many > 0))
  | [] => false)
/-- its labels and texts are within what the document tells -/
def agS (d : PyData) : Bool := match itD d with
  | a :: r => (match oneStr r with
    | some y => (!isS a "open" || decide (lblL y = isLab y)) && decide ((y.length : Int) ≤ 65535)
    | none => true)
  | [] => true
theorem gd_eq {d : PyData} {many : Int} (h : agS d = true) (m0 : 0 ≤ many) : gd d many = (sgnD d && decide (0 ≤ many + stpD d)) := by
  unfold gd hdS sgnD fauD stpD agS at *
  cases hq : isSq d with
  | false =>
    have e : itD d = [] := by
      cases d with
      | list _ => exact nomatch hq
      | tuple _ => exact nomatch hq
      | _ => rfl
    rw [e]
    rfl
  | true =>
    generalize itD d = L at *
    match L, h with
    | [], _ => rfl
    | [a], h =>
      cases a with
      | str z =>
        by_cases h1 : isS (.str z) "open" = true
        · have := isS_iff.mp h1
          cases this
          rfl
        · by_cases h2 : isS (.str z) "close" = true
          · have := isS_iff.mp h2
            cases this
            show (true && (true && (true && decide (many > 0)))) = (true && decide (0 ≤ many + -1))
            simp only [Bool.true_and, decide_eq_decide]
            omega
          · simp [h1, h2, oneStr, isStr]
      | _ => simp [isStr, isS]
    | [a, b], h =>
      cases a with
      | str z =>
        by_cases h1 : isS (.str z) "open" = true
        · have := isS_iff.mp h1
          cases this
          cases b with
          | str y =>
            simp only [oneStr, Bool.and_eq_true, decide_eq_true_eq] at h
            show (true && (true && lblL y)) = ((if isLab y = true then none else some 1 : Option Int).isNone && decide (0 ≤ many + 1))
            have h1' : lblL y = isLab y := by simpa [h1] using h.1
            rw [h1', decide_eq_true (show 0 ≤ many + 1 by omega)]
            cases isLab y <;> rfl
          | _ => simp [oneStr, labD, h1, isStr]
        · by_cases h2 : isS (.str z) "text" = true
          · have := isS_iff.mp h2
            cases this
            cases b with
            | str y =>
              simp only [oneStr, Bool.and_eq_true, decide_eq_true_eq] at h
              show (true && (true && true)) = ((if txtD (.str y) = true then none else some 1 : Option Int).isNone && decide (0 ≤ many + 0))
              rw [if_pos (show txtD (.str y) = true from decide_eq_true h.2), decide_eq_true (show 0 ≤ many + 0 by omega)]
              rfl
            | _ => simp [oneStr, txtD, h1, h2, isStr]
          · dsimp only
            rw [if_neg h1, if_neg h2, if_neg h1, if_neg h2]
            simp [List.isEmpty]
      | _ => simp [isStr, isS]
    | a :: b :: c :: r, h =>
      cases a with
      | str z =>
        dsimp only [oneStr]
        by_cases h1 : isS (.str z) "open" = true
        · simp [h1, oneStr]
        · by_cases h2 : isS (.str z) "text" = true
          · simp [h1, h2, oneStr]
          · simp [h1, h2, List.isEmpty]
      | _ => simp [isStr, isS]
section
variable {Pg : Program} {w : World} {K : PySem.W.Frag} {mg : Str → Option Value} {base : Heap} {P : Addr}
/-! ### _law_led -/
abbrev nLed : List Str := ["value", "many", "found", "at", "sign", "good"]
theorem scLed : FnScope nLed ["value", "many"] (defScope sLed) := ⟨rfl, rfl, rfl, by decide +kernel, rfl, by decide +kernel, by decide +kernel⟩
def tI5 (K : PySem.W.Frag) : TS := fun D σ H => ∃ (v0 : V) (many : Int) (v2 v3 : Option V) (x : V) (d : PyData), σ = [some v0, some (.int many), v2, v3, some x, some (.bl (hdS d))] ∧ Dp K H x d ∧ OkD d ∧ D.nx [some v0, some (.int many), v2, v3, some x, some (.bl (gd d many))] H
def tI4 (K : PySem.W.Frag) (P : Addr) : TE := fun σ H Q => ∃ (v0 : V) (many : Int) (v2 v3 : Option V) (x : V) (d : PyData) (v5 : Option V), σ = [some v0, some (.int many), v2, v3, some x, v5] ∧ Dp K H x d ∧ OkD d ∧ GxR.TabG H P ∧ ∀ H', Sm P H H' → Q (.bl (hdS d)) H'
theorem hdS_inv {d : PyData} (h : hdS d = true) : isSq d = true ∧ ∃ z r, itD d = .str z :: r := by
  unfold hdS at h
  rw [Bool.and_eq_true] at h
  refine ⟨h.1, ?_⟩
  have h2 := h.2
  match e : itD d with
  | [] => rw [e] at h2; exact nomatch h2
  | .str z :: r => exact ⟨z, r, rfl⟩
  | .none :: r => rw [e] at h2; exact nomatch h2
  | .bool _ :: r => rw [e] at h2; exact nomatch h2
  | .int _ :: r => rw [e] at h2; exact nomatch h2
  | .list _ :: r => rw [e] at h2; exact nomatch h2
  | .tuple _ :: r => rw [e] at h2; exact nomatch h2
  | .dict _ :: r => rw [e] at h2; exact nomatch h2
def spLed (K : PySem.W.Frag) (P : Addr) : Sp := fun vs H Q _ => ∃ (v : V) (D : PyData) (n : Int), vs = [v, .int n] ∧ GxR.TabG H P ∧ Dp K H v D ∧ OkD D ∧ (itD D).all agS = true ∧ 0 ≤ n ∧
  ∀ r x y H', Sm P H H' → SqT K H' r [x, y] → (match rdD D n with
   | .inl i => x = .non ∧ y = .int i
   | .inr _ => y = .non ∧ ∃ q, x = .ref q ∧ H' q = some (.lst ((List.range (itD D).length).map fun j => V.int (n + lvA (itD D) (j + 1))))) → Q (.ref r) H'
theorem ok_led {f : Addr} {fd : FuncData} (F : Fun K "_law_led" "_law_led" sLed f fd) (T : Tx K mg) : FnOk Pg w K mg base CX0 1 f fd ["value", "many"] (spLed K P) := by
  refine F.ok scLed (fun vs H Q E h => ?_) (fun cdv A outer s H vs Q E hr h => ?_)
  · obtain ⟨_, _, _, rfl, _⟩ := h
    rfl
  · obtain ⟨v, U, n, rfl, t, hD, ok, ag, n0, k⟩ := h
    have hu := hr.units
    refine ⟨_, pss_cons (ps_if (pt_not (pt_val (pe_callB call_isiT (by rfl) T.isi (by decide +kernel) (pa_cons (pv 0) (pa_cons (pe_tup (pa_cons (pe_bltn (v := .ty "list") (by rfl) T.list (by decide +kernel) rfl) (pa_cons (pe_bltn (v := .ty "tuple") (by rfl) T.tuple (by decide +kernel) rfl) pa_nil))) pa_nil)))))
        (pss_one (ps_ret (pe_tup (pa_cons pe_non (pa_cons (pe_op op_sub pe_int pe_int) pa_nil))))) pss_nil)
      (pss_cons (ps_set (i := 2) scLed.nd rfl (Or.inl rfl) (pe_lst pa_nil))
      (pss_cons (ps_for PassesOwn.never rfl (pi_en (by rfl) T.enumerate (pa_cons (pv 0) pa_nil)) (pg_tup rfl (pgs_cons (pg_name (i := 3) scLed.nd rfl (.inl rfl)) (pgs_cons (pg_name (i := 4) scLed.nd rfl (.inl rfl)) pgs_nil)))
        (pss_cons (ps_set (i := 5) scLed.nd rfl (Or.inl rfl) (pe_weak (t' := tI4 K P) (pe_and (pe_callB call_isiT (by rfl) T.isi (by decide +kernel) (pa_cons (pv 4) (pa_cons (pe_tup (pa_cons (pe_bltn (v := .ty "list") (by rfl) T.list (by decide +kernel) rfl) (pa_cons (pe_bltn (v := .ty "tuple") (by rfl) T.tuple (by decide +kernel) rfl) pa_nil))) pa_nil)))
            (pe_and (pe_cmpR op_gt (pe_callB call_len_seq (by rfl) T.len (by decide +kernel) (pa_cons (pv 4) pa_nil)) pe_int (nomark _))
            (pe_one (pe_callB call_isi (by rfl) T.isi (by decide +kernel) (pa_cons (pe_ix ix_sq (pv 4) pe_int (fun _ _ => rfl)) (pa_cons (pe_bltn (v := .ty "str") (by rfl) T.str (by decide +kernel) rfl) pa_nil)))))) ?_))
        (pss_cons (ps_weak (t' := tI5 K) (ps_if (PW.pt (pw_and (pt_val (pv 5)) (pw_and1 (pt_cmpR (op_eqD hu) (pe_ix ix_sq (pv 4) pe_int (fun _ _ => rfl)) pe_str (nomark _)))))
            (pss_one (ps_set (i := 5) scLed.nd rfl (Or.inl rfl) (pe_and (pe_cmpR op_eq (pe_callB call_len_seq (by rfl) T.len (by decide +kernel) (pa_cons (pv 4) pa_nil)) pe_int (nomark _))
              (pe_and (pe_callB call_isi (by rfl) T.isi (by decide +kernel) (pa_cons (pe_ix ix_sq (pv 4) pe_int (fun _ _ => rfl)) (pa_cons (pe_bltn (v := .ty "str") (by rfl) T.str (by decide +kernel) rfl) pa_nil)))
              (pe_and (pe_chain op_lt op_lt pe_int (pe_callB call_len_str (by rfl) T.len (by decide +kernel) (pa_cons (pe_ix ix_sq (pv 4) pe_int (fun _ _ => rfl)) pa_nil)) pe_int)
              (pe_and (pe_bm0 PySem.F.plainAttrs_str PySem.F.slot_str_islower PySem.F.type_str_islower mt_islower (pe_ix ix_sq (pv 4) pe_int (fun _ _ => rfl)))
              (pe_one (pe_bm0 PySem.F.plainAttrs_str PySem.F.slot_str_isalpha PySem.F.type_str_isalpha mt_isalpha (pe_ix ix_sq (pv 4) pe_int (fun _ _ => rfl))))))))))
            (pss_one (ps_if (pt_val (pv 5)) (pss_one (ps_set (i := 5) scLed.nd rfl (Or.inl rfl) (pe_ifExp (pt_cmpR (op_eqD hu) (pe_ix ix_sq (pv 4) pe_int (fun _ _ => rfl)) pe_str (nomark _))
              (pe_and (pe_cmpR op_eq (pe_callB call_len_seq (by rfl) T.len (by decide +kernel) (pa_cons (pv 4) pa_nil)) pe_int (nomark _)) (pe_one (pe_callB call_isi (by rfl) T.isi (by decide +kernel) (pa_cons (pe_ix ix_sq (pv 4) pe_int (fun _ _ => rfl)) (pa_cons (pe_bltn (v := .ty "str") (by rfl) T.str (by decide +kernel) rfl) pa_nil)))))
              (pe_and (pe_cmpR (op_eqD hu) (pe_ix ix_sq (pv 4) pe_int (fun _ _ => rfl)) pe_str (nomark _)) (pe_and (pe_cmpR op_eq (pe_callB call_len_seq (by rfl) T.len (by decide +kernel) (pa_cons (pv 4) pa_nil)) pe_int (nomark _)) (pe_one (pe_cmpR op_gt (pv 1) pe_int (nomark _)))))))) pss_nil))) ?_)
        (pss_cons (ps_if (pt_not (pt_val (pv 5))) (pss_one (ps_ret (pe_tup (pa_cons pe_non (pa_cons (pv 3) pa_nil))))) pss_nil)
        (pss_cons (ps_set (i := 1) scLed.nd rfl (Or.inl rfl) (pe_op op_sub (pe_op op_add (pv 1) (pe_callTy call_int1 (by rfl) T.int (by decide +kernel) (pa_cons (pe_cmpR (op_eqD hu) (pe_ix ix_sq (pv 4) pe_int (fun _ _ => rfl)) pe_str (nomark _)) pa_nil)))
            (pe_callTy call_int1 (by rfl) T.int (by decide +kernel) (pa_cons (pe_cmpR (op_eqD hu) (pe_ix ix_sq (pv 4) pe_int (fun _ _ => rfl)) pe_str (nomark _)) pa_nil))))
        (pss_one (ps_expr (pe_bm PySem.F.plainAttrs_list PySem.F.slot_list_append PySem.F.type_list_append mt_append (pv 2) (pa_cons (pv 1) pa_nil)))))))))
      (pss_one (ps_ret (pe_tup (pa_cons (pv 2) (pa_cons pe_non pa_nil))))))), ?_⟩
    · rintro σ H Q ⟨v0, many, v2, v3, x, d, v5, rfl, hx, okd, t, q⟩
      refine ⟨_, rfl, (by show 2 ≤ sizeLine; decide), fun p hp => ?_⟩
      have s1 := Sm.new t hp (o := .tup [.ty "list", .ty "tuple"])
      refine ⟨_, p, _, _, _, _, rfl, upd_same, .cons (.ty _) (.cons (.ty _) .nil), tyD (Dp.mono t s1 hx), kit_sq hx, _, rfl, ?_⟩
      cases hq : isSq d with
      | false =>
        have e : hdS d = false := by unfold hdS; rw [hq]; rfl
        rw [e] at q
        exact iteF (q _ s1)
      | true =>
        obtain ⟨a, xs, rfl, hs, hi⟩ := dp_seq (Dp.mono t s1 hx) hq
        refine iteT ⟨_, rfl, a, xs, rfl, len_sq hs, _, _, rfl, rfl, _, rfl, ?_⟩
        have e : hdS d = (match itD d with
          | a :: _ => isStr a
          | [] => false) := by unfold hdS; rw [hq]; rfl
        rw [e] at q
        generalize itD d = L at hi q
        cases hi with
        | nil => exact iteF (q _ s1)
        | @cons x0 r0 d0 e0 h0 hr0 =>
          rw [decide_eq_true (show ((x0 :: r0).length : Int) > 0 by rw [List.length_cons]; omega)]
          exact iteT ⟨_, rfl, at_sq hs (atI_nat (j := 0) rfl) ⟨_, _, _, _, _, rfl, .ty _, tyD h0, kit_str h0, q _ s1⟩⟩
    · rintro D σ H ⟨v0, many, v2, v3, x, d, rfl, hx, okd, q⟩
      refine ⟨_, rfl, _, rfl, ?_⟩
      cases hh : hdS d with
      | false =>
        have e : gd d many = false := by unfold gd; rw [hh]; rfl
        rw [e] at q
        exact iteF (iteF ⟨_, rfl, _, rfl, iteF q⟩)
      | true =>
        obtain ⟨hq, z, r, er⟩ := hdS_inv hh
        obtain ⟨a, xs, rfl, hs, hi⟩ := dp_seq hx hq
        have oks := okD_it okd
        have eg : gd d many = (if isS (.str z) "open" = true then (match oneStr r with
          | some y => lblL y
          | none => false) else if isS (.str z) "text" = true then (oneStr r).isSome else isS (.str z) "close" && (r.isEmpty && decide (many > 0))) := by
          unfold gd
          rw [hh, er]
          rfl
        rw [eg] at q
        rw [er] at hi oks
        cases hi with
        | @cons x0 r0 _ _ h0 hr0 =>
          have ok0 := oks _ (List.mem_cons_self ..)
          refine iteT ⟨_, rfl, at_sq hs (atI_nat (j := 0) rfl) ⟨_, .str "open", h0, .str _, ok0.sh, by decide +kernel, _, rfl, ?_⟩⟩
          rw [eqv_str]
          refine ite2 (fun z1 => ?_) (fun z1 => ⟨_, rfl, _, rfl, iteT ?_⟩)
          · rw [if_pos z1] at q
            refine ⟨_, rfl, a, _, rfl, len_sq hs, rfl, _, rfl, ?_⟩
            rw [dint]
            cases hr0 with
            | nil => exact iteF q
            | @cons x1 r1 d1 e1 h1 hr1 =>
              have ok1 := oks _ (List.mem_cons_of_mem _ (List.mem_cons_self ..))
              cases hr1 with
              | cons h2 _ =>
                rw [decide_eq_false (by simp only [List.length_cons]; omega)]
                refine iteF ?_
                cases d1 <;> exact q
              | nil =>
                refine iteT ⟨_, rfl, at_sq hs (atI_nat (j := 1) rfl) ⟨_, _, _, _, _, rfl, .ty _, tyD h1, kit_str h1, _, rfl, ?_⟩⟩
                cases h1 with
                | bl b => exact iteF q
                | non => exact iteF q
                | int b => exact iteF q
                | lst _ _ => exact iteF q
                | tup _ _ => exact iteF q
                | str y =>
                  refine iteT ⟨_, rfl, at_sq hs (atI_nat (j := 1) rfl) ⟨y, rfl, sz100 (okD_str ok1), _, _, rfl, rfl, _, rfl, ?_⟩⟩
                  have e9 : (match oneStr [PyData.str y] with
                    | some y => lblL y
                    | none => false) = (decide ((0 : Int) < (y.length : Int)) && (decide ((y.length : Int) < 13) && (Txt.islower y && Txt.isalpha y))) := rfl
                  rw [e9] at q
                  cases c1 : decide ((0 : Int) < (y.length : Int)) with
                  | false =>
                    rw [c1] at q
                    exact iteF ⟨_, rfl, iteF q⟩
                  | true =>
                    rw [c1] at q
                    refine iteT ⟨_, _, rfl, rfl, _, rfl, ?_⟩
                    cases c2 : decide ((y.length : Int) < 13) with
                    | false =>
                      rw [c2] at q
                      exact iteF q
                    | true =>
                      rw [c2] at q
                      refine iteT ⟨_, rfl, at_sq hs (atI_nat (j := 1) rfl) ⟨rfl, y, rfl, rfl, trivial, _, rfl, ?_⟩⟩
                      cases c3 : Txt.islower y with
                      | false =>
                        rw [c3] at q
                        exact iteF q
                      | true =>
                        rw [c3] at q
                        exact iteT ⟨_, rfl, at_sq hs (atI_nat (j := 1) rfl) ⟨rfl, y, rfl, rfl, trivial, q⟩⟩
          · rw [if_neg z1] at q
            refine ⟨_, rfl, at_sq hs (atI_nat (j := 0) rfl) ⟨_, .str "text", h0, .str _, ok0.sh, by decide +kernel, _, rfl, ?_⟩⟩
            rw [eqv_str]
            refine ite2 (fun z2 => ?_) (fun z2 => ?_)
            · rw [if_pos z2] at q
              refine ⟨_, rfl, a, _, rfl, len_sq hs, rfl, _, rfl, ?_⟩
              rw [dint]
              cases hr0 with
              | nil => exact iteF q
              | @cons x1 r1 d1 e1 h1 hr1 =>
                cases hr1 with
                | cons h2 _ =>
                  rw [decide_eq_false (by simp only [List.length_cons]; omega)]
                  refine iteF ?_
                  cases d1 <;> exact q
                | nil =>
                  refine iteT ⟨_, rfl, at_sq hs (atI_nat (j := 1) rfl) ⟨_, _, _, _, _, rfl, .ty _, tyD h1, kit_str h1, ?_⟩⟩
                  cases h1 <;> exact q
            · rw [if_neg z2] at q
              refine ⟨_, rfl, at_sq hs (atI_nat (j := 0) rfl) ⟨_, .str "close", h0, .str _, ok0.sh, by decide +kernel, _, rfl, ?_⟩⟩
              rw [eqv_str]
              cases z3 : isS (.str z) "close" with
              | false =>
                rw [z3] at q
                exact iteF q
              | true =>
                rw [z3] at q
                refine iteT ⟨_, rfl, a, _, rfl, len_sq hs, rfl, _, rfl, ?_⟩
                rw [dint]
                cases hr0 with
                | nil => exact iteT ⟨_, rfl, _, _, rfl, rfl, q⟩
                | cons _ _ =>
                  rw [decide_eq_false (by simp only [List.length_cons]; omega)]
                  exact iteF q
    · refine ⟨_, rfl, (by show 2 ≤ sizeLine; decide), fun p0 hp0 => ?_⟩
      have s1 := Sm.new t hp0 (o := .tup [.ty "list", .ty "tuple"])
      refine ⟨_, p0, _, _, _, _, rfl, upd_same, .cons (.ty _) (.cons (.ty _) .nil), tyD (Dp.mono t s1 hD), kit_sq hD, _, rfl, ?_⟩
      have small : ∀ {m : Nat}, m ≤ 5000 → m ≤ sizeLine := fun h => Nat.le_trans h (by decide)
      unfold rdD at k
      cases hq : isSq U with
      | false =>
        rw [hq, if_neg Bool.false_ne_true] at k
        exact iteT ⟨_, _, rfl, rfl, small (by show 2 ≤ 5000; decide), fun r hr2 => k r _ _ _ (s1.trans (Sm.new s1.2 hr2)) (.inl (.inl upd_same)) ⟨rfl, rfl⟩⟩
      | true =>
        rw [hq, if_pos rfl] at k
        obtain ⟨p, xs, rfl, hx0, hi0⟩ := dp_seq hD hq
        have oks := okD_it ok
        have len := okD_len ok
        have lx := dpa_len hi0
        refine iteF ⟨Nat.zero_le _, fun l hl => ?_⟩
        have l0 : H l = none := s1.free t hl
        have lP : l ≠ P := nPt s1.2 hl
        have s2 : Sm P H (upd (upd H p0 (.tup [.ty "list", .ty "tuple"])) l (.lst [])) := s1.mut l0 lP
        refine for_en (xs := xs) hx0 (fun Q q => ⟨_, rfl, q⟩) (fun i σ H' => ∃ (lv : Int) (v3 v4 v5 : Option V), σ = [some (.ref p), some (.int lv), some (.ref l), v3, v4, v5] ∧
          Sm P H H' ∧ H' l = some (.lst ((List.range i).map fun j => V.int (n + lvA (itD U) (j + 1)))) ∧ lv = n + lvA (itD U) i ∧ 0 ≤ lv ∧ levD (itD U) 0 n = levD ((itD U).drop i) i lv) ⟨n, none, none, none, rfl, s2, upd_same, by rw [lvA_zero]; omega, n0, rfl⟩ (fun i σ H' ⟨_, _, _, _, _, s3, _⟩ => sq_keep t s3) ?_ ?_
        · rintro i x T1 σ Ha hxi ⟨lv, v3, v4, v5, rfl, s3, hl3, hlv, lv0, hlev⟩ hT
          obtain ⟨d, hdi, hd⟩ := dpa_at hi0 hxi
          have mem := List.mem_of_getElem? hdi
          have okd := oks d mem
          have agd := List.all_eq_true.mp ag d mem
          have s4 : Sm P H (upd Ha T1 (.tup [.int (i : Nat), x])) := s3.trans (Sm.new s3.2 hT)
          have ilen : i < (itD U).length := (List.getElem?_eq_some_iff.mp hdi).1
          refine ⟨T1, _, rfl, .inl (.inl upd_same), rfl, _, _, rfl, _, _, rfl, rfl, ?_⟩
          refine ⟨_, lv, _, _, x, d, _, rfl, Dp.mono t s4 hd, okd, s4.2, fun H5 s5 => ?_⟩
          have s6 : Sm P H H5 := s4.trans s5
          refine ⟨_, lv, _, _, x, d, rfl, Dp.mono t s6 hd, okd, _, rfl, _, rfl, ?_⟩
          rw [gd_eq agd lv0]
          rw [drop_at hdi, lev_cons] at hlev
          cases hg : sgnD d with
          | false =>
            rw [hg, if_pos rfl] at hlev
            rw [hlev] at k
            exact iteT ⟨_, rfl, small (by show 2 ≤ 5000; decide), fun r hr2 => k r _ _ _ (s6.trans (Sm.new s6.2 hr2)) (.inl (.inl upd_same)) ⟨rfl, rfl⟩⟩
          | true =>
            rw [hg, if_neg (fun z => Bool.noConfusion z)] at hlev
            by_cases z : lv + stpD d < 0
            · rw [if_pos z] at hlev
              rw [hlev] at k
              rw [decide_eq_false (show ¬ 0 ≤ lv + stpD d by omega)]
              exact iteT ⟨_, rfl, small (by show 2 ≤ 5000; decide), fun r hr2 => k r _ _ _ (s6.trans (Sm.new s6.2 hr2)) (.inl (.inl upd_same)) ⟨rfl, rfl⟩⟩
            · rw [if_neg z] at hlev
              rw [decide_eq_true (show 0 ≤ lv + stpD d by omega)]
              refine iteF ?_
              obtain ⟨hqd, a, rr, e⟩ := sgn_cons hg
              obtain ⟨pd, xd, rfl, hxd, hid⟩ := dp_seq (Dp.mono t s6 hd) hqd
              have okds := okD_it okd
              have es : stpD d = (if isS a "open" = true then 1 else if isS a "close" = true then -1 else 0) := by
                unfold stpD
                rw [e]
              rw [e] at hid okds
              cases hid with
              | @cons x0 r0 _ _ h0 hr0 =>
                have ok0 := okds a (List.mem_cons_self ..)
                refine ⟨_, rfl, _, rfl, at_sq hxd (atI_nat (j := 0) rfl) ⟨a, .str "open", h0, .str _, ok0.sh, by decide +kernel, .inr ⟨_, rfl, ?_⟩⟩⟩
                rw [eqv_str]
                refine ⟨_, _, rfl, rfl, _, rfl, at_sq hxd (atI_nat (j := 0) rfl) ⟨a, .str "close", h0, .str _, ok0.sh, by decide +kernel, .inr ⟨_, rfl, ?_⟩⟩⟩
                rw [eqv_str]
                refine ⟨_, _, rfl, rfl, ?_⟩
                have ev : lv + (if isS a "open" = true then 1 else 0) - (if isS a "close" = true then 1 else 0) = lv + stpD d := by
                  rw [es]
                  by_cases q1 : isS a "open" = true
                  · have := isS_iff.mp q1
                    subst this
                    rw [if_pos q1, if_pos q1, if_neg (by decide +kernel)]
                    omega
                  · rw [if_neg q1, if_neg q1]
                    by_cases q2 : isS a "close" = true
                    · rw [if_pos q2, if_pos q2]; omega
                    · rw [if_neg q2, if_neg q2]; omega
                show gName 1 (V.int (lv + (if isS a "open" = true then 1 else 0) - (if isS a "close" = true then 1 else 0))) _ _ _
                rw [ev]
                have hl6 : H5 l = some (.lst ((List.range i).map fun j => V.int (n + lvA (itD U) (j + 1)))) := by
                  have := (Sm.new s3.2 hT (o := .tup [.int (i : Nat), .ref pd])).trans s5
                  exact this.1 l _ lP hl3
                have eL := lvA_succ hdi
                refine ⟨_, rfl, .inl ⟨rfl, _, .inl (.inl hl6)⟩, _, rfl, l, _, _, rfl, rfl, hl6, by rw [List.length_map, List.length_range]; exact Nat.lt_of_lt_of_le ilen (Nat.le_trans len (by decide)), lv + stpD d, _, _, _, rfl, s6.mut l0 lP, ?_, by rw [eL, hlv]; omega, by omega, hlev⟩
                rw [upd_same, List.range_succ, List.map_append]
                show _ = some (HO.lst (_ ++ [V.int (n + lvA (itD U) (i + 1))]))
                rw [eL, hlv, Int.add_assoc]
        · rintro σ H' ⟨lv, v3, v4, v5, rfl, s3, hl3, hlv, lv0, hlev⟩
          rw [lx, List.drop_length] at hlev
          rw [hlev] at k
          rw [lx] at hl3
          refine ⟨_, rfl, small (by show 2 ≤ 5000; decide), fun r hr2 => k r _ _ _ (s3.trans (Sm.new s3.2 hr2)) (.inl (.inl upd_same)) ⟨rfl, l, rfl, ?_⟩⟩
          rw [upd_ne (ne_of_none hl3 hr2)]
          exact hl3
end
end K6

set_option Elab.async false
set_option linter.all false
set_option maxRecDepth 100000
set_option maxHeartbeats 4000000
namespace K6
open PySem PySem.Spec PyProof.Rows L2 So SoFr SoC
/-! ### slices -/
theorem cutN (xs : List V) (n : Nat) : cutV xs (some (n : Int)) none = xs.drop n := by
  unfold cutV HT.sIx
  have h0 : ¬ ((n : Int) < 0) := by omega
  simp [h0]
  rcases Nat.le_total n xs.length with h | h
  · rw [Nat.min_eq_left h, List.take_of_length_le (by rw [List.length_drop]; exact Nat.le_refl _)]
  · rw [Nat.min_eq_right h, List.drop_eq_nil_of_le (Nat.le_refl _), List.drop_eq_nil_of_le h, List.take_nil]
theorem cutT (xs : List V) (n : Nat) : cutV xs none (some (n : Int)) = xs.take n := by
  unfold cutV HT.sIx
  have h0 : ¬ ((n : Int) < 0) := by omega
  simp [h0]
theorem dpa_take {K : PySem.W.Frag} {H : Hp} : ∀ {xs : List V} {ds : List PyData} (n : Nat), DpAll K H xs ds → DpAll K H (xs.take n) (ds.take n)
  | _, _, 0, _ => by rw [List.take_zero, List.take_zero]; exact .nil
  | _, _, _ + 1, .nil => .nil
  | _, _, n + 1, .cons a b => .cons a (dpa_take n b)
theorem dpa_drop {K : PySem.W.Frag} {H : Hp} : ∀ {xs : List V} {ds : List PyData} (n : Nat), DpAll K H xs ds → DpAll K H (xs.drop n) (ds.drop n)
  | _, _, 0, h => h
  | _, _, _ + 1, .nil => .nil
  | _, _, n + 1, .cons a b => dpa_drop n b
/-! ### written data behind a list of one's own and the box -/
theorem BxG.lits {K : PySem.W.Frag} {G0 H0 H' : Hp} {b l : Addr} {ys : List V} {v : V} {D : PyData} (hb : BxG G0 b H0) (n0 : H0 l = none) (x : Xt (upd H0 l (.lst ys)) H') (d : Dp K (newP (upd H0 l (.lst ys)) H') v D) :
    ∃ G1 H1, H' = upd H1 l (.lst ys) ∧ H1 l = none ∧ BxG G1 b H1 ∧ Xt G0 G1 ∧ Dp K G1 v D := by
  obtain ⟨g0, hb1⟩ := hb.new (o := .lst ys) n0
  obtain ⟨hb2, x2⟩ := hb1.xt x
  have e1 : del H' b l = some (.lst ys) := x2 l _ upd_same
  have e2 : upd (del (del H' b) l) l (.lst ys) = del H' b := del_back e1
  rw [← e2] at hb2
  obtain ⟨H1, e3, hb3, n3⟩ := hb2.inv del_same
  refine ⟨_, H1, e3, n3, hb3, fun c o e => ?_, ?_⟩
  · have nl : c ≠ l := ne_of_none e g0
    rw [del_ne nl]
    exact x2 c o (by rw [upd_ne nl]; exact e)
  · refine Dp.xt (fun c o e => ?_) d
    obtain ⟨n, e4⟩ := newP_inv e
    have nl : c ≠ l := fun z => by rw [z, upd_same] at n; cases n
    rw [upd_ne nl] at n
    have nb : c ≠ b := fun z => by
      obtain ⟨_, g, s, e5, _⟩ := hb
      rw [z, e5, upd_same] at n
      cases n
    rw [del_ne nl, del_ne nb]
    exact e4
theorem dp_lst {K : PySem.W.Frag} {H : Hp} {v : V} {Ds : List PyData} (h : Dp K H v (.list Ds)) : ∃ a xs, v = .ref a ∧ SqL K H a xs ∧ DpAll K H xs Ds := by
  cases h with
  | lst a b => exact ⟨_, _, rfl, a, b⟩
theorem dp_tup {K : PySem.W.Frag} {H : Hp} {v : V} {Ds : List PyData} (h : Dp K H v (.tuple Ds)) : ∃ a xs, v = .ref a ∧ SqT K H a xs ∧ DpAll K H xs Ds := by
  cases h with
  | tup a b => exact ⟨_, _, rfl, a, b⟩
/-! ### rows as they are drawn -/
def wd1 : List PyData := [.tuple [.str "open", .str "a"], .list [.str "open", .str "b"], .tuple [.str "close"], .tuple [.str "close"], .tuple [.str "text", .str "x"], .list [.str "close"]]
def wd2 : List PyData := [.none, .tuple [.str "open", .str "A"], .tuple [.str "open"], .tuple [.str "close", .str "a"], .tuple [.str "text", .int 5], .tuple [], .str "close", .tuple [.str "shut"]]
def wd3 : List PyData := [.none, .int 5, .str "close", .bool true]
def okW (d : PyData) : Bool := fitD d && (d.canLay0 && (decide (d.depth ≤ 20) && agS d))
theorem wds_ok : (wd1 ++ wd2).all okW = true := by decide +kernel
theorem wd3_ok : wd3.all (fun d => okW d && !isSq d) = true := by decide +kernel
def okRow (D : PyData) : Prop := D ∈ wd3 ∨ ∃ ds, (D = .list ds ∨ D = .tuple ds) ∧ ds.length ≤ 8 ∧ ∀ d ∈ ds, d ∈ wd1 ++ wd2
section
variable {Pg : Program} {w : World} {K : PySem.W.Frag} {mg : Str → Option Value} {base : Heap} {P : Addr}
/-! ### _law_row -/
abbrev nLrw : List Str := ["box", "found", "turn", "at"]
theorem scLrw : FnScope nLrw ["box"] (defScope sLrw) := ⟨rfl, rfl, rfl, by decide +kernel, rfl, by decide +kernel, by decide +kernel⟩
def spLrw (K : PySem.W.Frag) (P : Addr) : Sp := fun vs H Q _ => ∃ (G : Hp) (b : Addr), vs = [.ref b] ∧ GxR.TabG G P ∧ BxG G b H ∧ ∀ (v : V) (D : PyData) (G' H' : Hp), Sm P G G' → BxG G' b H' → Dp K G' v D → okRow D → Q v H'
def tRw (K : PySem.W.Frag) (P : Addr) : TE := fun σ H Q => ∃ (G : Hp) (b q : Addr) (ys : List V) (ds : List PyData) (v2 v3 : Option V), σ = [some (.ref b), some (.ref q), v2, v3] ∧ GxR.TabG G P ∧ BxG G b H ∧ G q = some (.lst ys) ∧ DpAll K G ys ds ∧ ds.length ≤ 8 ∧ (∀ d ∈ ds, d ∈ wd1 ++ wd2) ∧
  ∀ (v : V) (D : PyData) (G' H' : Hp), Sm P G G' → BxG G' b H' → Dp K G' v D → okRow D → Q v H'
theorem ok_lrw {f fT fP : Addr} {fd fdT fdP : FuncData} (F : Fun K "_law_row" "_law_row" sLrw f fd) (T : Tx K mg) (D : Df K mg "_law_take" sTak ["box", "many"] fT fdT) (Pk : Df K mg "_law_pick" sPck ["box", "some"] fP fdP) : FnOk Pg w K mg base CX0 3 f fd ["box"] (spLrw K P) := by
  have GD : FnOk Pg w K mg base CX0 1 fT fdT ["box", "many"] spTakG := ok_takG D.F T
  have GP : FnOk Pg w K mg base CX0 2 fP fdP ["box", "some"] (spPckG K) := ok_pckG Pk.F T D
  refine F.ok scLrw (fun vs H Q E h => ?_) (fun cdv A outer s H vs Q E hr h => ?_)
  · obtain ⟨_, _, rfl, _⟩ := h
    rfl
  · obtain ⟨G, b, rfl, t, hb, k⟩ := h
    have hr1 : Room 1 _ := hr.mono (by decide)
    refine ⟨_, pss_cons (ps_set (i := 1) scLrw.nd rfl (Or.inl rfl) (pe_lst pa_nil))
      (pss_cons (ps_for PassesOwn.never rfl (pi_range1 (by rfl) T.range (pa_cons (pe_callH GD hr1 (by rfl) D.g D.F.kp D.b (pa_cons (pv 0) (pa_cons pe_int pa_nil))) pa_nil)) (pg_name (i := 2) scLrw.nd rfl (Or.inl rfl))
        (pss_one (ps_expr (pe_bm PySem.F.plainAttrs_list PySem.F.slot_list_append PySem.F.type_list_append mt_append (pv 1) (pa_cons (pe_callH GP hr (by rfl) Pk.g Pk.F.kp Pk.b (pa_cons (pv 0) (pa_cons (le_lst (la_cons (le_tup (la_cons le_str (la_cons le_str la_nil))) (la_cons (le_lst (la_cons le_str (la_cons le_str la_nil))) (la_cons (le_tup (la_cons le_str la_nil)) (la_cons (le_tup (la_cons le_str la_nil)) (la_cons (le_tup (la_cons le_str (la_cons le_str la_nil))) (la_cons (le_lst (la_cons le_str la_nil)) la_nil))))))) pa_nil))) pa_nil)))))
      (pss_cons (ps_if (pt_cmpR op_eq (pe_call GD hr1 (by rfl) D.g D.F.kp D.b .nil pass0 (pa_cons (pv 0) (pa_cons pe_int pa_nil))) pe_int (nomark _))
        (pss_cons (ps_set (i := 3) scLrw.nd rfl (Or.inl rfl) (pe_call GD hr1 (by rfl) D.g D.F.kp D.b .nil pass0 (pa_cons (pv 0) (pa_cons (pe_op op_add (pe_callB call_len_seq (by rfl) T.len (by decide +kernel) (pa_cons (pv 1) pa_nil)) pe_int) pa_nil))))
        (pss_one (ps_set (i := 1) scLrw.nd rfl (Or.inl rfl) (pe_op op_cat (pe_op op_cat (pe_slice sl_list (pv 1) po_none (po_some (pv 3)))
          (pe_lst (pa_cons (pe_call GP hr (by rfl) Pk.g Pk.F.kp Pk.b .nil pass0 (pa_cons (pv 0) (pa_cons (le_lst (la_cons le_non (la_cons (le_tup (la_cons le_str (la_cons le_str la_nil))) (la_cons (le_tup (la_cons le_str la_nil)) (la_cons (le_tup (la_cons le_str (la_cons le_str la_nil))) (la_cons (le_tup (la_cons le_str (la_cons le_int la_nil))) (la_cons (le_tup la_nil) (la_cons le_str (la_cons (le_tup (la_cons le_str la_nil)) la_nil))))))))) pa_nil))) pa_nil)))
          (pe_slice sl_list (pv 1) (po_some (pv 3)) po_none))))) pss_nil)
      (pss_one (ps_ret (pe_weak (t' := tRw K P) (pe_call GP hr (by rfl) Pk.g Pk.F.kp Pk.b .nil pass0 (pa_cons (pv 0) (pa_cons (pe_lst (pa_cons (pv 1) (pa_cons (pe_tupleOf (by rfl) T.tuple (pv 1)) (pa_cons (pv 1)
        (pa_cons (pe_call GP hr (by rfl) Pk.g Pk.F.kp Pk.b .nil pass0 (pa_cons (pv 0) (pa_cons (pe_lst (pa_cons pe_non (pa_cons pe_int (pa_cons pe_str (pa_cons pe_bl (pa_cons (pv 1) pa_nil)))))) pa_nil))) pa_nil))))) pa_nil))) ?_))))), ?_⟩
    · rintro σ H Q ⟨G, b, q, ys, ds, v2, v3, rfl, t, hb, hq, hys, l8, hm, k⟩
      have hH := hb.sub q _ hq
      refine ⟨_, rfl, _, rfl, _, rfl, .inl ⟨q, ys, rfl, SqL.of hH, fun p hp => ?_⟩⟩
      obtain ⟨np, hb1⟩ := hb.new (o := .tup ys) hp
      have s1 := Sm.new t np (o := .tup ys)
      refine ⟨_, rfl, _, rfl, _, rfl, (by show 5 ≤ sizeLine; decide), fun p2 hp2 => ?_⟩
      obtain ⟨np2, hb2⟩ := hb1.new (o := .lst [.non, .int 5, .str "close", .bl true, .ref q]) hp2
      have s2 := s1.trans (Sm.new s1.2 np2 (o := .lst [.non, .int 5, .str "close", .bl true, .ref q]))
      refine ⟨_, b, p2, _, rfl, hb2, .inl (.inl upd_same), (by show 0 < 5; decide), (by show 5 < 1000; decide), fun j v H3 hj hb3 => ?_⟩
      refine ⟨(by show 4 ≤ sizeLine; decide), fun p3 hp3 => ?_⟩
      obtain ⟨np3, hb4⟩ := hb3.new (o := .lst [.ref q, .ref p, .ref q, v]) hp3
      have s3 := s2.trans (Sm.new s2.2 np3 (o := .lst [.ref q, .ref p, .ref q, v]))
      refine ⟨_, b, p3, _, rfl, hb4, .inl (.inl upd_same), (by show 0 < 4; decide), (by show 4 < 1000; decide), fun j2 v2 H5 hj2 hb5 => ?_⟩
      have dq : Dp K _ (.ref q) (.list ds) := Dp.mono t s3 (.lst (.inl (.inl hq)) hys)
      have dp : Dp K _ (.ref p) (.tuple ds) := Dp.mono s2.2 (Sm.new s2.2 np3 (o := .lst [.ref q, .ref p, .ref q, v])) (Dp.mono s1.2 (Sm.new s1.2 np2 (o := .lst [.non, .int 5, .str "close", .bl true, .ref q])) (.tup (.inl (.inl upd_same)) (DpAll.mono t s1 hys)))
      have ol : okRow (.list ds) := .inr ⟨ds, .inl rfl, l8, hm⟩
      have ot : okRow (.tuple ds) := .inr ⟨ds, .inr rfl, l8, hm⟩
      have dv : ∃ D, Dp K (upd (upd (upd G p (.tup ys)) p2 (.lst [.non, .int 5, .str "close", .bl true, .ref q])) p3 (.lst [.ref q, .ref p, .ref q, v])) v D ∧ okRow D := by
        match j, hj with
        | 0, hj => cases hj; exact ⟨_, .non, .inl (by simp [wd3])⟩
        | 1, hj => cases hj; exact ⟨_, .int 5, .inl (by simp [wd3])⟩
        | 2, hj => cases hj; exact ⟨_, .str "close", .inl (by simp [wd3])⟩
        | 3, hj => cases hj; exact ⟨_, .bl true, .inl (by simp [wd3])⟩
        | 4, hj => cases hj; exact ⟨_, dq, ol⟩
      match j2, hj2 with
      | 0, hj2 => cases hj2; exact k _ _ _ _ s3 hb5 dq ol
      | 1, hj2 => cases hj2; exact k _ _ _ _ s3 hb5 dp ot
      | 2, hj2 => cases hj2; exact k _ _ _ _ s3 hb5 dq ol
      | 3, hj2 =>
        cases hj2
        obtain ⟨D, d1, d2⟩ := dv
        exact k _ _ _ _ s3 hb5 d1 d2
    · refine ⟨Nat.zero_le _, fun l hl => ⟨_, rfl, hide_one hl ⟨G, b, 8, rfl, hb, by decide, by decide, fun m H1 hm8 hb1 n1 => ⟨_, rfl, by omega, by omega, for_range (lo := 0) (n := m) (fun i σ H' => ∃ (v2 v3 : Option V) (G0 H0 : Hp) (ys : List V) (ds : List PyData), σ = [some (.ref b), some (.ref l), v2, v3] ∧
        H' = upd H0 l (.lst ys) ∧ H0 l = none ∧ Sm P G G0 ∧ BxG G0 b H0 ∧ DpAll K G0 ys ds ∧ ds.length = i ∧ ∀ d ∈ ds, d ∈ wd1 ++ wd2) ⟨none, none, G, H1, [], [], rfl, rfl, n1, Sm.refl t, hb1, .nil, rfl, fun _ z => nomatch z⟩ ?_ ?_⟩⟩⟩⟩
      · rintro i σ H' hi ⟨v2, v3, G0, H0, ys, ds, rfl, rfl, n0, s0, hb0, hys, hds, hmem⟩
        refine ⟨_, rfl, .inl ⟨rfl, _, .inl (.inl upd_same)⟩, _, rfl, fun v H2 x d => ?_⟩
        obtain ⟨G1, H3, rfl, n3, hb3, x3, d3⟩ := hb0.lits n0 x d
        have s3 := x3.sm s0.2
        obtain ⟨p, xs, rfl, hp, hxs⟩ := dp_lst d3
        have lx := dpa_len hxs
        refine hide_one n3 ⟨G1, b, p, xs, rfl, hb3, hp, by rw [lx]; decide, by rw [lx]; decide, fun j v H4 hj hb4 n4 => ?_⟩
        obtain ⟨dj, hdj, hvj⟩ := dpa_at hxs hj
        refine ⟨l, ys, v, rfl, rfl, upd_same, by rw [dpa_len hys, hds]; exact Nat.lt_of_lt_of_le (show i < 8 by omega) (by decide), _, _, G1, H4, ys ++ [v], ds ++ [dj], rfl, by rw [upd_upd], n4, s0.trans s3, hb4, dpa_app (DpAll.mono s0.2 s3 hys) (.cons hvj .nil), by rw [List.length_append, hds]; rfl, fun z hz => ?_⟩
        rcases List.mem_append.mp hz with q | q
        · exact hmem z q
        · rw [List.mem_singleton.mp q]
          exact List.mem_append_left _ (List.mem_of_getElem? hdj)
      · rintro σ H' ⟨v2, v3, G0, H0, ys, ds, rfl, rfl, n0, s0, hb0, hys, hds, hmem⟩
        obtain ⟨g0, hb9⟩ := hb0.new (o := .lst ys) n0
        have s9 := Sm.new s0.2 g0 (o := .lst ys)
        have s09 := s0.trans s9
        have hy9 := DpAll.mono s0.2 s9 hys
        have ly : ys.length = ds.length := dpa_len hys
        have l7 : ds.length ≤ 7 := by omega
        refine ⟨_, rfl, _, b, 4, rfl, hb9, by decide, by decide, fun r H2 hr4 hb2 => ⟨rfl, _, rfl, ?_⟩⟩
        refine ite2 (fun _ => ?_) (fun _ => ⟨_, b, l, ys, ds, _, _, rfl, s09.2, hb2, upd_same, hy9, by omega, hmem, fun v D G' H' s' hb' d' ok' => k v D G' H' (s09.trans s') hb' d' ok'⟩)
        refine ⟨_, rfl, _, rfl, l, ys, rfl, .inl (SqL.of (hb2.sub l _ upd_same)), _, _, rfl, rfl, _, b, _, rfl, hb2, by omega, by omega, fun at_ H3 hat hb3 => ?_⟩
        have hat2 : at_ ≤ ds.length := by omega
        refine ⟨_, rfl, _, rfl, _, rfl, l, ys, rfl, SqL.of (hb3.sub l _ upd_same), fun p1 hp1 => ?_⟩
        rw [cutT] at *
        obtain ⟨np1, hb4⟩ := hb3.new (o := .lst (ys.take at_)) hp1
        have s4 := Sm.new s09.2 np1 (o := .lst (ys.take at_))
        refine ⟨_, rfl, fun v H5 x5 d5 => ?_⟩
        obtain ⟨hb5, x6⟩ := hb4.xt x5
        have d6 := hb4.lit d5
        have s6 := s4.trans (x6.sm s4.2)
        obtain ⟨p6, xs6, rfl, hp6, hxs6⟩ := dp_lst d6
        have lx6 := dpa_len hxs6
        refine ⟨_, b, p6, xs6, rfl, hb5, hp6, by rw [lx6]; decide, by rw [lx6]; decide, fun j vj H7 hj hb7 => ?_⟩
        obtain ⟨dj, hdj, hvj⟩ := dpa_at hxs6 hj
        refine ⟨(by show 1 ≤ sizeLine; decide), fun p8 hp8 => ?_⟩
        obtain ⟨np8, hb8⟩ := hb7.new (o := .lst [vj]) hp8
        have s8 := s6.trans (Sm.new s6.2 np8 (o := .lst [vj]))
        have g1 : (upd (del H5 b) p8 (.lst [vj])) p1 = some (.lst (ys.take at_)) := Xt.new np8 p1 _ (x6 p1 _ upd_same)
        have gl : (upd (del H5 b) p8 (.lst [vj])) l = some (.lst ys) := Xt.new np8 l _ (x6 l _ (Xt.new np1 l _ upd_same))
        have lt : (ys.take at_).length ≤ 7 := by rw [List.length_take]; omega
        refine ⟨p1, p8, _, _, rfl, rfl, hb8.sub p1 _ g1, upd_same, Nat.le_trans (show (ys.take at_).length + 1 ≤ 8 by omega) (by decide), fun p9 hp9 => ?_⟩
        obtain ⟨np9, hb10⟩ := hb8.new (o := .lst (ys.take at_ ++ [vj])) hp9
        have s10 := s8.trans (Sm.new s8.2 np9 (o := .lst (ys.take at_ ++ [vj])))
        refine ⟨_, rfl, _, rfl, _, rfl, l, ys, rfl, SqL.of (hb10.sub l _ (Xt.new np9 l _ gl)), fun pA hpA => ?_⟩
        rw [cutN] at *
        obtain ⟨npA, hb11⟩ := hb10.new (o := .lst (ys.drop at_)) hpA
        have s11 := s10.trans (Sm.new s10.2 npA (o := .lst (ys.drop at_)))
        refine ⟨p9, pA, _, _, rfl, rfl, hb11.sub p9 _ (Xt.new npA p9 _ upd_same), upd_same, Nat.le_trans (show (ys.take at_ ++ [vj]).length + (ys.drop at_).length ≤ 16 by rw [List.length_append, List.length_drop, List.length_singleton]; omega) (by decide), fun pB hpB => ?_⟩
        obtain ⟨npB, hb12⟩ := hb11.new (o := .lst (ys.take at_ ++ [vj] ++ ys.drop at_)) hpB
        have s12 := s11.trans (Sm.new s11.2 npB (o := .lst (ys.take at_ ++ [vj] ++ ys.drop at_)))
        have s6t := (Sm.new s6.2 np8 (o := .lst [vj])).trans ((Sm.new s8.2 np9 (o := .lst (ys.take at_ ++ [vj]))).trans ((Sm.new s10.2 npA (o := .lst (ys.drop at_))).trans (Sm.new s11.2 npB (o := .lst (ys.take at_ ++ [vj] ++ ys.drop at_)))))
        refine ⟨_, b, pB, _, ds.take at_ ++ [dj] ++ ds.drop at_, _, _, rfl, s12.2, hb12, upd_same, ?_, ?_, ?_, fun v D G' H' s' hb' d' ok' => k v D G' H' ((s09.trans s12).trans s') hb' d' ok'⟩
        · refine dpa_app (dpa_app ?_ (.cons (Dp.mono s6.2 s6t hvj) .nil)) ?_
          · exact DpAll.mono s09.2 s12 (dpa_take _ hy9)
          · exact DpAll.mono s09.2 s12 (dpa_drop _ hy9)
        · simp only [List.length_append, List.length_take, List.length_drop, List.length_singleton]
          omega
        · intro z hz
          rcases List.mem_append.mp hz with hz | hz
          · rcases List.mem_append.mp hz with hz | hz
            · exact hmem z (List.mem_of_mem_take hz)
            · rw [List.mem_singleton.mp hz]
              exact List.mem_append_right _ (List.mem_of_getElem? hdj)
          · exact hmem z (List.mem_of_mem_drop hz)
end
end K6


set_option Elab.async false
set_option linter.all false
set_option maxRecDepth 100000
set_option maxHeartbeats 4000000
namespace K6
open PySem PySem.Spec PyProof.Rows L2 So
/-! ### calls by keywords alone -/
def g1 {α : Type} : List α → List α → List α
  | [], [a] => [a]
  | _, _ => []
def g2 {α : Type} : List α → List α → List α
  | [], [b, a] => [a, b]
  | _, _ => []
def g3 {α : Type} : List α → List α → List α
  | [], [c, b, a] => [a, b, c]
  | _, _ => []
theorem kb1 {K : PySem.W.Frag} {x q p : Str} {st : Stmt} {f : Addr} {fd : FuncData} (F : Fun K x q st f fd)
    (h : ∀ (kV doc pm : Value) (an : Option Addr) (cdv ct a : Value), bindArgs (PySem.W.fnOf x q (defArgs st) (defBody st) (defScope st) .none kV doc pm an cdv ct) ⟨[], [(p, a)]⟩ = pure [(p, a)]) : KBinds K fd [p] [p] g1 g1 := by
  obtain ⟨oc, od, kV, doc, pm, an, cdv, ct, osl, rfl, lk, hcd⟩ := F.ex
  refine ⟨fun s us ws _ hl => ?_, fun r z => ?_⟩
  · match us, ws, hl with
    | [], [a], _ => exact .of_eq (h kV doc pm an cdv ct a)
    | [], [], hl => exact nomatch hl
    | [], _ :: _ :: _, hl => exact nomatch hl
    | _ :: _, _, hl => exact nomatch hl
  · cases r with
    | nil =>
      cases z with
      | nil => exact .nil
      | cons a z =>
        cases z with
        | nil => exact .cons a .nil
        | cons b z => exact .nil
    | cons a r => exact .nil
theorem kb2 {K : PySem.W.Frag} {x n p q : Str} {st : Stmt} {f : Addr} {fd : FuncData} (F : Fun K x n st f fd)
    (h : ∀ (kV doc pm : Value) (an : Option Addr) (cdv ct a b : Value), bindArgs (PySem.W.fnOf x n (defArgs st) (defBody st) (defScope st) .none kV doc pm an cdv ct) ⟨[], [(q, b), (p, a)]⟩ = pure [(p, a), (q, b)]) : KBinds K fd [p, q] [q, p] g2 g2 := by
  obtain ⟨oc, od, kV, doc, pm, an, cdv, ct, osl, rfl, lk, hcd⟩ := F.ex
  refine ⟨fun s us ws _ hl => ?_, fun r z => ?_⟩
  · match us, ws, hl with
    | [], [b, a], _ => exact .of_eq (h kV doc pm an cdv ct a b)
    | [], [], hl => exact nomatch hl
    | [], [_], hl => exact nomatch hl
    | [], _ :: _ :: _ :: _, hl => exact nomatch hl
    | _ :: _, _, hl => exact nomatch hl
  · cases r with
    | nil =>
      cases z with
      | nil => exact .nil
      | cons a z =>
        cases z with
        | nil => exact .nil
        | cons b z =>
          cases z with
          | nil => exact .cons b (.cons a .nil)
          | cons c z => exact .nil
    | cons a r => exact .nil
theorem kb3 {K : PySem.W.Frag} {x n p q r : Str} {st : Stmt} {f : Addr} {fd : FuncData} (F : Fun K x n st f fd)
    (h : ∀ (kV doc pm : Value) (an : Option Addr) (cdv ct a b c : Value), bindArgs (PySem.W.fnOf x n (defArgs st) (defBody st) (defScope st) .none kV doc pm an cdv ct) ⟨[], [(r, c), (q, b), (p, a)]⟩ = pure [(p, a), (q, b), (r, c)]) : KBinds K fd [p, q, r] [r, q, p] g3 g3 := by
  obtain ⟨oc, od, kV, doc, pm, an, cdv, ct, osl, rfl, lk, hcd⟩ := F.ex
  refine ⟨fun s us ws _ hl => ?_, fun r' z => ?_⟩
  · match us, ws, hl with
    | [], [c, b, a], _ => exact .of_eq (h kV doc pm an cdv ct a b c)
    | [], [], hl => exact nomatch hl
    | [], [_], hl => exact nomatch hl
    | [], [_, _], hl => exact nomatch hl
    | [], _ :: _ :: _ :: _ :: _, hl => exact nomatch hl
    | _ :: _, _, hl => exact nomatch hl
  · cases r' with
    | nil =>
      cases z with
      | nil => exact .nil
      | cons a z =>
        cases z with
        | nil => exact .nil
        | cons b z =>
          cases z with
          | nil => exact .nil
          | cons c z =>
            cases z with
            | nil => exact .cons c (.cons b (.cons a .nil))
            | cons e z => exact .nil
    | cons a r => exact .nil
section
variable {X : Cx} {CX : CXT} {k : Nat} {f : Addr} {fd : FuncData} {ps ks : List Str} {sp : Sp} {E : XK} {x : Str} {p pos : Pos} {kws : List Keyword} {tk : TA} {g : List Value → List Value → List Value} {gV : List V → List V → List V}
theorem pe_callK0 (F : FnOk X.prog X.w X.K X.mg X.base CX k f fd ps sp) (hr : Room k X.A) (hg : Gl X x) (hm : X.mg x = some (.ref f)) (hk : PySem.W.keepIn X.K (.ref f) = true) (hb : KBinds X.K fd ps ks g gV) (hx : Passes CX X E)
    (hkw : PK X kws tk) (hall : (backToKw pos (keywordEach kws X.env)).all (·.1.isSome) = true := by rfl) (hks : (backToKw pos (keywordEach kws X.env)).filterMap (·.1) = ks := by rfl)
    (hdb : (x == ("__debug__" : Str)) = false := by decide) (hpl : ((backTo pos (starEach [] X.env)).any (·.1) || (backToKw pos (keywordEach kws X.env)).any (·.1.isNone)) = false := by rfl) :
    PE X (.Call (.Name x p) [] kws pos) (tCallK sp gV E tNil tk) := by
  refine ⟨fun pins s σ H Q I h => wpAny_Call_Name_kw (ld_glob I hg hm ?_ hdb)⟩
  refine PySem.W.callWith_KW0 (h₀ := X.base) I.ok.mod.kin hk hall (thn (hkw.run pos pins s σ H _ I h) fun ws s2 ⟨zs, H2, I2, rz, q2⟩ => ⟨I2.kIn, ?_⟩) hpl
  rw [hks]
  exact run_fnk (us := []) (vs := []) F hr hb hx I2 .nil rz q2
end
/-! ### data that can be shown -/
def lgB (d : PyData) : Bool := d.showable && !d.hasDict && decide (d.depth = 0) && d.leavesShort 13 && decide (d.weight ≤ 12)
theorem lg_ints : (List.range 2000).all (fun n => lgB (.int (n : Nat))) = true := by decide +kernel
theorem lg_non : lgB .none = true := by decide +kernel
theorem lg_bool (b : Bool) : lgB (.bool b) = true := by cases b <;> decide +kernel
structure GD (h W : Nat) (d : PyData) : Prop where
  sh : d.showable = true
  di : d.hasDict = false
  de : d.depth ≤ h
  le : d.leavesShort 13 = true
  we : d.weight ≤ W
theorem gd_leaf {d : PyData} (h : lgB d = true) : GD 0 12 d := by
  unfold lgB at h
  simp only [Bool.and_eq_true, decide_eq_true_eq, Bool.not_eq_true'] at h
  obtain ⟨⟨⟨⟨h1, h2⟩, h3⟩, h4⟩, h5⟩ := h
  exact ⟨h1, h2, by omega, h4, h5⟩
theorem gd_all {h W : Nat} : ∀ {ds : List PyData}, (∀ d ∈ ds, GD h W d) → PyData.showableAll ds = true ∧ PyData.hasDictAll ds = false ∧ PyData.depthAll ds ≤ h ∧ PyData.leavesShortAll 13 ds = true ∧ PyData.weightAll ds ≤ ds.length * (W + 1)
  | [], _ => ⟨rfl, rfl, Nat.zero_le _, rfl, Nat.zero_le _⟩
  | d :: ds, q => by
    obtain ⟨a1, a2, a3, a4, a5⟩ := gd_all (ds := ds) fun x hx => q x (List.mem_cons_of_mem _ hx)
    obtain ⟨b1, b2, b3, b4, b5⟩ := q d (List.mem_cons_self ..)
    refine ⟨?_, ?_, ?_, ?_, ?_⟩
    · simp only [PyData.showableAll, a1, b1, Bool.and_self]
    · simp only [PyData.hasDictAll, a2, b2, Bool.or_self]
    · simp only [PyData.depthAll]
      exact Nat.max_le.mpr ⟨b3, a3⟩
    · simp only [PyData.leavesShortAll, a4, b4, Bool.and_self]
    · simp only [PyData.weightAll, List.length_cons, Nat.succ_mul]
      omega
theorem gd_tup {h W n : Nat} {ds : List PyData} (q : ∀ d ∈ ds, GD h W d) (l : ds.length ≤ n) : GD (h + 1) (n * (W + 1)) (.tuple ds) := by
  obtain ⟨a1, a2, a3, a4, a5⟩ := gd_all q
  exact ⟨a1, a2, Nat.succ_le_succ a3, a4, Nat.le_trans a5 (Nat.mul_le_mul_right _ l)⟩
theorem gd_lst {h W n : Nat} {ds : List PyData} (q : ∀ d ∈ ds, GD h W d) (l : ds.length ≤ n) : GD (h + 1) (n * (W + 1)) (.list ds) := by
  obtain ⟨a1, a2, a3, a4, a5⟩ := gd_all q
  exact ⟨a1, a2, Nat.succ_le_succ a3, a4, Nat.le_trans a5 (Nat.mul_le_mul_right _ l)⟩
theorem gd_fits {h W : Nat} {d : PyData} (g : GD h W d) (w : W ≤ 1000000) : d.shown.length ≤ sizeLine :=
  PyData.shown_fits (B := 13) (by decide) (by decide) g.le (Nat.le_trans g.we (Nat.le_trans w (by decide)))
end K6

set_option Elab.async false
set_option linter.all false
set_option maxRecDepth 100000
set_option maxHeartbeats 4000000
namespace K6
open PySem PySem.Spec PyProof.Rows L2 So SoFr SoC
/-! ### what stands while lambdas are made -/
structure Lv (L : List (Addr × Str)) (P : Addr) (H : Hp) : Prop where
  t : GxR.TabG H P
  tabs : LamX.Tabs L H
/-- is_label's table is none of the law's -/
def Apart (L : List (Addr × Str)) (P : Addr) : Prop := ∀ p ∈ L, p.1 ≠ P
def Mv (L : List (Addr × Str)) (P : Addr) (H H' : Hp) : Prop := LamX.ExtN H H' ∧ Lv L P H'
section
variable {L : List (Addr × Str)} {P : Addr} {H H' H1 : Hp} {K : PySem.W.Frag}
theorem code_nt {c : Addr} {q : Str} (ps : Array Value) : LamX.CodeO c q ≠ .tbl ps := fun z => nomatch z
theorem tabs_keep (t : LamX.Tabs L H) (k : ∀ p ∈ L, ∀ o, H p.1 = some o → H' p.1 = some o) (e : ∀ c q, H c = some (LamX.CodeO c q) → H' c = some (LamX.CodeO c q)) : LamX.Tabs L H' := by
  intro p hp
  obtain ⟨ps, a, b, c⟩ := t p hp
  refine ⟨ps, k p hp _ a, b, fun pos cv h => ?_⟩
  obtain ⟨d, e1, e2⟩ := c pos cv h
  exact ⟨d, e1, e _ _ e2⟩
theorem Mv.refl (l : Lv L P H) : Mv L P H H := ⟨fun _ _ e _ => e, l⟩
theorem Mv.trans (a : Mv L P H H1) (b : Mv L P H1 H') : Mv L P H H' := ⟨fun c o e n => b.1 c o (a.1 c o e n) n, b.2⟩
theorem Sm.lv (ap : Apart L P) (l : Lv L P H) (s : Sm P H H') : Mv L P H H' := by
  obtain ⟨ps, eP, tP⟩ := l.t
  refine ⟨fun b o e n => s.1 b o (fun z => ?_) e, s.2, tabs_keep l.tabs (fun p hp o e => s.1 _ o (ap p hp) e) fun c q e => s.1 c _ (fun z => ?_) e⟩
  · rw [z, eP] at e
    exact n ps (Option.some.inj e).symm
  · rw [z, eP] at e
    exact code_nt ps (Option.some.inj e).symm
theorem Mv.sm (ap : Apart L P) (a : Mv L P H H1) (s : Sm P H1 H') : Mv L P H H' := a.trans (Sm.lv ap a.2 s)
theorem Mv.new {p : Addr} {o : HO} (ap : Apart L P) (l : Lv L P H) (n : H p = none) : Mv L P H (upd H p o) := Sm.lv ap l (Sm.new l.t n)
mutual
theorem Dp.ext (x : LamX.ExtN H H') : ∀ {D : PyData} {v : V}, Dp K H v D → Dp K H' v D
  | .none, _, h => by cases h; exact .non
  | .bool _, _, h => by cases h; exact .bl _
  | .int _, _, h => by cases h; exact .int _
  | .str _, _, h => by cases h; exact .str _
  | .list ds, _, h => by
    cases h with
    | lst a b => exact .lst (a.imp (fun q => q.imp (fun q => x _ _ q fun _ z => nomatch z) fun ⟨o, q⟩ => ⟨o, x _ _ q fun _ z => nomatch z⟩) _root_.id) (DpAll.ext x b)
  | .tuple ds, _, h => by
    cases h with
    | tup a b => exact .tup (a.imp (fun q => q.imp (fun q => x _ _ q fun _ z => nomatch z) fun ⟨o, q⟩ => ⟨o, x _ _ q fun _ z => nomatch z⟩) _root_.id) (DpAll.ext x b)
  | .dict _, _, h => by cases h
theorem DpAll.ext (x : LamX.ExtN H H') : ∀ {ds : List PyData} {xs : List V}, DpAll K H xs ds → DpAll K H' xs ds
  | [], _, h => by cases h; exact .nil
  | d :: ds, _, h => by
    cases h with
    | cons a b => exact .cons (Dp.ext x a) (DpAll.ext x b)
end
theorem sqt_ext (x : LamX.ExtN H H') {a : Addr} {xs : List V} (h : SqT K H a xs) : SqT K H' a xs := h.imp (fun q => q.imp (fun q => x _ _ q fun _ z => nomatch z) fun ⟨o, q⟩ => ⟨o, x _ _ q fun _ z => nomatch z⟩) _root_.id
theorem sql_ext (x : LamX.ExtN H H') {a : Addr} {xs : List V} (h : SqL K H a xs) : SqL K H' a xs := h.imp (fun q => q.imp (fun q => x _ _ q fun _ z => nomatch z) fun ⟨o, q⟩ => ⟨o, x _ _ q fun _ z => nomatch z⟩) _root_.id
/-! ### one list of one's own beside what stands -/
/-- G and a list at b -/
def Own (G : Hp) (b : Addr) (xs : List V) (H : Hp) : Prop := G b = none ∧ H = upd G b (.lst xs)
theorem own_lv {G : Hp} {b : Addr} {o : HO} (ap : Apart L P) (l : Lv L P G) (n : G b = none) : Lv L P (upd G b o) := (Mv.new ap l n).2
theorem del_own {G : Hp} {b : Addr} {o : HO} (n : G b = none) : del (upd G b o) b = G := by
  funext c
  by_cases z : c = b
  · rw [z, del_same, n]
  · rw [del_ne z, upd_ne z]
/-- what moves beside a list of one's own -/
theorem mv_beside {G : Hp} {b : Addr} {xs : List V} (n : G b = none) (l : Lv L P G) (m : Mv L P (upd G b (.lst xs)) H') : H' = upd (del H' b) b (.lst xs) ∧ del H' b b = none ∧ Mv L P G (del H' b) := by
  have e := m.1 b _ upd_same fun _ z => nomatch z
  refine ⟨(del_back e).symm, del_same, fun c o ec nt => ?_, ?_, ?_⟩
  · have nb : c ≠ b := ne_of_none ec n
    rw [del_ne nb]
    exact m.1 c o (by rw [upd_ne nb]; exact ec) nt
  · obtain ⟨ps, a, r⟩ := m.2.t
    have nb : P ≠ b := fun z => by
      rw [z, e] at a
      cases a
    exact ⟨ps, by rw [del_ne nb]; exact a, r⟩
  · refine tabs_keep m.2.tabs (fun p hp o eo => ?_) fun c q ec => ?_
    · have nb : p.1 ≠ b := fun z => by
        obtain ⟨ps, a, _⟩ := m.2.tabs p hp
        rw [z, e] at a
        cases a
      rw [del_ne nb]
      exact eo
    · have nb : c ≠ b := fun z => by
        rw [z, e] at ec
        exact nomatch Option.some.inj ec
      rw [del_ne nb]
      exact ec
theorem BxG.mv {G : Hp} {b : Addr} (h : BxG G b H) (l : Lv L P G) (m : Mv L P H H') : BxG (del H' b) b H' ∧ Mv L P G (del H' b) := by
  obtain ⟨n, g, s, rfl, h⟩ := h
  obtain ⟨e, n2, m2⟩ := mv_beside n l m
  exact ⟨⟨n2, g, s, e, h⟩, m2⟩
theorem BxG.lv {G : Hp} {b : Addr} (ap : Apart L P) (h : BxG G b H) (l : Lv L P G) : Lv L P H := by
  obtain ⟨n, g, s, rfl, h⟩ := h
  exact own_lv ap l n
theorem BxG.smv {G : Hp} {b : Addr} (ap : Apart L P) (h : BxG G b H) (l : Lv L P G) (s : Sm P H H') : BxG (del H' b) b H' ∧ Mv L P G (del H' b) := h.mv l (Sm.lv ap (h.lv ap l) s)
end
/-! ### a question of a lambda -/
/-- what is told of a lambda by its words alone -/
structure LamIs (X : Cx) (N fr : List Str) (js : List Nat) (k : Nat) (t : XK → TE) (params : Arguments) (body : Expr) (scope : Scope) : Prop where
  S : NdefX.NScope N [] fr scope
  free : ∀ y ∈ scope.names, y.2 = .free → X.env.scope.names.lookup y.1 = some .cell ∨ X.env.scope.names.lookup y.1 = some .free
  sup : ∀ y, y ∈ fr → (y, NameKind.free) ∈ scope.names
  at_ : js.map (fun j => X.N[j]?) = fr.map some
  hb : ∀ (q : Str) (cl : List (Str × Addr)) (pm cv ctv : Value), bindArgs (PySem.W.kla_fn "<lambda>" q params body scope cl pm cv ctv) ⟨[], []⟩ = pure []
  body : ∀ (c f : Addr) (A : Around) (outer : List Env) (s1 : Shared) (H1 : Hp) (E : XK), Room k (A.deeper (NdefX.envF (lamF X params scope c) f s1.heap.objs.size)) →
    PE (NdefX.ncx (L2.CX X.prog X.w) X.prog X.w X.K X.mg X.base N (lamF X params scope c) f A outer s1 H1 E) body (t E)
/-- a lambda stands at f: a call of it reads as t, from the slots js of the def that made it -/
def LamAt (X : Cx) (N : List Str) (js : List Nat) (k : Nat) (t : XK → TE) (f : Addr) (G : Hp) : Prop := ∃ (fr : List Str) (params : Arguments) (body : Expr) (scope : Scope) (c : Addr), LamIs X N fr js k t params body scope ∧
  G f = some (LmO f (lamF X params scope c) body) ∧ G c = some (LamX.CodeO c (X.env.qual ++ "<lambda>"))
section
variable {X : Cx} {pins : List (Addr × Obj)} {σ : L2.St} {G H H' : Hp} {s : Shared} {N fr : List Str} {js : List Nat} {params : Arguments} {body : Expr} {scope : Scope} {c f : Addr} {sp : Sp} {k : Nat} {t : XK → TE}
theorem LamAt.ext (h : LamAt X N js k t f G) (e : LamX.ExtN G H) : LamAt X N js k t f H := by
  obtain ⟨fr, pa, bo, sc, c, is, h1, h2⟩ := h
  exact ⟨fr, pa, bo, sc, c, is, e _ _ h1 (fun ps z => nomatch z), e _ _ h2 (fun ps z => nomatch z)⟩
theorem LamAt.cal (I : Inv X pins σ H s) (h : LamAt X N js k t f G) (e : LamX.ExtN G H) (hsp : ∀ vs H Q E, sp vs H Q E → vs = [])
    (hbody : ∀ (H1 : Hp) (Q : VK) (E : XK), LamX.ExtN G H1 → sp [] H1 Q E → t E (NdefX.startF N [] (js.map (NdefX.slotAt σ))) H1 Q) :
    ∃ C : CF, Cal X.prog X.w X.K X.mg X.base (k + 1) C (fun a o => G a = some o ∧ ∀ ps, o ≠ .tbl ps) f sp ∧ cellsIn C s H ∧ trkIn (fun a o => G a = some o ∧ ∀ ps, o ≠ .tbl ps) H ∧ FnK H f := by
  obtain ⟨fr, pa, bo, sc, c, is, h1, h2⟩ := h
  have cp : NdefX.Caps X (cloFrom X.env.cells sc.names []) fr js := NdefX.Caps.made I.ok is.free is.sup is.at_
  refine ⟨cfAt (cloFrom X.env.cells sc.names []) s, ?_, cf_in I cp, fun a o q => e a o q.1 q.2, fnK_lm (e _ _ h1 (fun ps z => nomatch z))⟩
  refine cal_lam (F := lamF X pa sc c) (ws := js.map (NdefX.slotAt σ)) is.S (fun pm ctv us hl => ?_) (fun vs H Q E q => by rw [hsp _ _ _ _ q]; rfl) ⟨h1, fun ps z => nomatch z⟩ ⟨h2, fun ps z => nomatch z⟩ (fun s' H' h => cf_cells I cp h) (fun A outer s1 H1 vs Q E hr _ ht q => ?_)
  · match us, hl with
    | [], _ => exact is.hb _ _ pm _ ctv
  · cases hsp _ _ _ _ q
    exact ⟨_, is.body c f A outer s1 H1 E hr, hbody H1 Q E (fun b o e n => ht b o ⟨e, n⟩) q⟩
/-- a lambda's making -/
def tLamA (L : List (Addr × Str)) (P : Addr) (X : Cx) (N : List Str) (js : List Nat) (k : Nat) (t : XK → TE) : TE := fun _ H Q => Lv L P H ∧ ∀ (f : Addr) (H1 : Hp), Mv L P H H1 → (∀ b, H1 b = none → H b = none) → H f = none → LamAt X N js k t f H1 → Q (.ref f) H1
theorem pe_lamA {L : List (Addr × Str)} {P Pl : Addr} {c : Addr} {pos : Pos} (TB : LamX.TabB X.base X.mg c Pl) (hcode : X.env.code = .ref c) (hm : (Pl, X.env.qual ++ "<lambda>") ∈ L) (hu : ∀ p ∈ L, p.1 = Pl → p.2 = X.env.qual ++ "<lambda>") (hP : Pl ≠ P)
    (hdef : defaultsOf params X.env = ([], [])) (is : LamIs X N fr js k t params body scope) : PE X (.Lambda params body scope pos) (tLamA L P X N js k t) :=
  pe_weak (pe_lam TB hcode hm hu is.free hdef) fun σ H Q q => ⟨q.1.tabs, fun f c H1 e1 e2 e3 e4 e5 e6 e7 => q.2 f H1 ⟨e2, ⟨by
    obtain ⟨ps, a, r⟩ := q.1.t
    exact ⟨ps, e1 _ _ (Ne.symm hP) a, r⟩, e4⟩⟩ e3 e5 ⟨fr, params, body, scope, c, is, e6, e7⟩⟩
/-! ### what _law_heard hears of it -/
def preL (X : Cx) (P CS CR : Addr) (N : List Str) (js : List Nat) (t : XK → TE) : L2.St → List V → Hp → VK → Prop := fun σ vs H Q => GxR.TabG H P ∧ ∃ (f : Addr) (o : Out) (D : PyData), vs = [.ref f] ∧ LamAt X N js 7 t f H ∧ Heard CS CR o D ∧
  (∀ H1 Q' E, LamX.ExtN H H1 → spAsk X.K P o [] H1 Q' E → t E (NdefX.startF N [] (js.map (NdefX.slotAt σ))) H1 Q') ∧ ∀ v H', Sm P H H' → Dp X.K H' v D → Q v H'
theorem preL_of {P CS CR : Addr} {vs : List V} {Q : VK} {E : XK} (I : Inv X pins σ H s) (h : preL X P CS CR N js t σ vs H Q) : spHrd X.prog X.w X.K X.mg X.base P CS CR s vs H Q E := by
  obtain ⟨tb, f, o, D, rfl, la, hh, hb, k⟩ := h
  obtain ⟨C, c1, c2, c3, c4⟩ := la.cal I (fun _ _ e _ => e) (sp := spAsk X.K P o) (fun _ _ _ _ q => q.1) hb
  exact ⟨tb, f, C, _, o, D, rfl, c1, c2, c3, c4, hh, k⟩
end
end K6

set_option Elab.async false
set_option linter.all false
set_option maxRecDepth 100000
set_option maxHeartbeats 4000000
namespace K6
open PySem PySem.Spec PyProof.Rows L2 So
/-! ### comprehensions that choose and tell -/
def sel (c : Nat → Bool) (p : Nat → V) (n : Nat) : List V := ((List.range n).filter c).map p
theorem sel_yes {c : Nat → Bool} {p : Nat → V} {n : Nat} (h : c n = true) : sel c p (n + 1) = sel c p n ++ [p n] := by
  unfold sel
  rw [List.range_succ, List.filter_append, List.map_append]
  simp [h]
theorem sel_no {c : Nat → Bool} {p : Nat → V} {n : Nat} (h : c n = false) : sel c p (n + 1) = sel c p n := by
  unfold sel
  rw [List.range_succ, List.filter_append, List.map_append]
  simp [h]
theorem sel_len (c : Nat → Bool) (p : Nat → V) (n : Nat) : (sel c p n).length ≤ n := by
  unfold sel
  rw [List.length_map]
  exact Nat.le_trans (List.length_filter_le _ _) (by rw [List.length_range]; exact Nat.le_refl _)
theorem lc_sel {J : It} {n : Nat} {G : Hp → Prop} {Y : Nat → Hp → V → Hp → Prop} {P D : Addr} {H1 : Hp} {g : TG} {tt : TT} {te : TE} {vs : List Nat} {σ : L2.St} {Qd : Hp → Prop} (w : Walk J n G Y) (t : GxR.TabG H1 P) (hD : H1 D = none) (hn : n ≤ 9000)
    (hG : ∀ H', Sm P H1 H' → G H') (c : Nat → Bool) (p : Nat → V)
    (hs : ∀ i x H H' (Qe : V → Hp → Prop) (N : Hp → Prop), i < n → Sm P H1 H → Y i H x H' → (c i = true → ∀ H4, Sm P H H4 → Qe (p i) H4) → (c i = false → ∀ H4, Sm P H H4 → N H4) →
      g x (wipe σ vs) H' fun σ2 H2 => wipe σ2 vs = wipe σ vs ∧ tt σ2 H2 fun b H3 => if b = true then te σ2 H3 Qe else N H3)
    (hd : ∀ H2, Sm P H1 H2 → H2 D = some (.lst (sel c p n)) → Qd H2) :
    ∃ W : Nat → Nat → Hp → Prop, (∃ m, W 0 m (upd H1 D (.lst []))) ∧ ∀ i m H, W i m H →
      (J.stop i H ∧ Qd H) ∨ (J.go i H ∧ ∃ Nx : Hp → Prop, (∀ H', Nx H' → ∃ m', m' < m ∧ W (i + 1) m' H') ∧ ∀ x H', J.yld i H x H' → g x (wipe σ vs) H' fun σ2 H2 => wipe σ2 vs = wipe σ vs ∧ tt σ2 H2 fun b H3 =>
        if b = true then te σ2 H3 fun y H4 => ∃ acc, H4 D = some (.lst acc) ∧ acc.length < sizeLine ∧ Nx (upd H4 D (.lst (acc ++ [y]))) else Nx H3) := by
  have DP := nPt t hD
  refine lc_it w (fun i H => Sm P H1 H ∧ H D = some (.lst (sel c p i))) ⟨Sm.new t hD, upd_same⟩ (fun i H _ q => hG H q.1) ?_ (fun H q => hd H q.1 q.2)
  rintro i x H H' hi ⟨s, q⟩ y
  refine hs i x H H' _ _ hi s y (fun ci H4 s4 => ?_) (fun ci H4 s4 => ?_)
  · have q4 := s4.atL s.2 q
    refine ⟨_, q4, Nat.lt_of_le_of_lt (Nat.le_trans (sel_len c p i) (by omega : i ≤ 9000)) (by decide), (s.trans s4).mut hD DP, ?_⟩
    rw [upd_same, sel_yes ci]
  · refine ⟨s.trans s4, ?_⟩
    rw [sel_no ci]
    exact s4.atL s.2 q
/-! ### the place behind a node -/
def oiD : Option Int → PyData
  | none => .none
  | some i => .int i
theorem oi_dp {K : PySem.W.Frag} {H : Hp} (r : Option Int) : Dp K H (oiV r) (oiD r) := by
  cases r with
  | none => exact .non
  | some i => exact .int i
/-- from the place i + j on -/
theorem nb_from {es : List PyData} {i : Nat} : ∀ (k j : Nat), i + j + k = es.length → nbF (es.drop (i + j)) (i + j) (lvA es (i + j) - lvA es i) = ((List.range k).filter fun u => decide (lvA es (i + 1 + j + u) = lvA es i)).head?.map fun (u : Nat) => ((i : Int) + 1 + j + u)
  | 0, j, h => by
    rw [List.drop_eq_nil_of_le (by omega)]
    rfl
  | k + 1, j, h => by
    have hl : i + j < es.length := by omega
    have e : es[i + j]? = some es[i + j] := List.getElem?_eq_getElem hl
    rw [drop_at e, nb_cons]
    have e2 := lvA_succ e
    have ex : lvA es (i + j) - lvA es i + stpD es[i + j] = lvA es (i + (j + 1)) - lvA es i := by
      rw [← Nat.add_assoc, e2]
      omega
    have ih := nb_from (es := es) (i := i) k (j + 1) (by omega)
    rw [List.range_succ_eq_map, List.filter_cons]
    by_cases z : lvA es (i + 1 + j) = lvA es i
    · have z2 : lvA es (i + (j + 1)) - lvA es i = 0 := by
        rw [show i + (j + 1) = i + 1 + j by omega, z]
        omega
      rw [ex, if_pos z2, if_pos (decide_eq_true (by rw [Nat.add_zero]; exact z))]
      refine congrArg some ?_
      show (((i + j : Nat)) : Int) + 1 = (i : Int) + 1 + j + ((0 : Nat) : Int)
      omega
    · have z2 : ¬ lvA es (i + (j + 1)) - lvA es i = 0 := fun q => z (by
        rw [show i + 1 + j = i + (j + 1) by omega]
        omega)
      rw [ex, if_neg z2, if_neg (fun q => z (by have := of_decide_eq_true q; rwa [Nat.add_zero] at this))]
      rw [show i + j + 1 = i + (j + 1) by omega, ih, List.filter_map, List.head?_map, Option.map_map]
      have ef : ((fun u => decide (lvA es (i + 1 + j + u) = lvA es i)) ∘ Nat.succ) = fun u => decide (lvA es (i + 1 + (j + 1) + u) = lvA es i) := by
        funext u
        show decide (lvA es (i + 1 + j + (u + 1)) = lvA es i) = _
        rw [show i + 1 + j + (u + 1) = i + 1 + (j + 1) + u by omega]
      rw [ef]
      congr 1
      funext u
      show ((i : Int) + 1 + ((j + 1 : Nat) : Int) + u) = (i : Int) + 1 + j + ((u + 1 : Nat) : Int)
      omega
/-- the places behind i of the same level -/
def plS (es : List PyData) (i : Nat) : List V := sel (fun u => decide (lvA es (i + 1 + u) = lvA es i)) (fun u => .int ((i : Int) + 1 + u)) (es.length - i)
theorem nb_all {es : List PyData} {i : Nat} (h : i ≤ es.length) : nbF (es.drop i) i 0 = ((List.range (es.length - i)).filter fun u => decide (lvA es (i + 1 + u) = lvA es i)).head?.map fun (u : Nat) => ((i : Int) + 1 + u) := by
  have q := nb_from (es := es) (i := i) (es.length - i) 0 (by omega)
  rw [Nat.add_zero, Int.sub_self] at q
  rw [q]
  have e1 : (fun u => decide (lvA es (i + 1 + 0 + u) = lvA es i)) = fun u => decide (lvA es (i + 1 + u) = lvA es i) := by
    funext u
    rw [Nat.add_zero]
  rw [e1]
  have e2 : (fun (u : Nat) => (i : Int) + 1 + ((0 : Nat) : Int) + u) = fun (u : Nat) => (i : Int) + 1 + u := by
    funext u
    omega
  rw [e2]
theorem plS_head {es : List PyData} {i : Nat} (h : i ≤ es.length) : (plS es i = [] ∧ nbF (es.drop i) i 0 = none) ∨ ∃ (u : Nat) (r : List V), plS es i = .int ((i : Int) + 1 + u) :: r ∧ nbF (es.drop i) i 0 = some ((i : Int) + 1 + u) ∧ u < es.length - i := by
  rw [nb_all h]
  unfold plS sel
  cases e : (List.range (es.length - i)).filter fun u => decide (lvA es (i + 1 + u) = lvA es i) with
  | nil => exact .inl ⟨rfl, rfl⟩
  | cons u r => exact .inr ⟨u, _, rfl, rfl, by
    have : u ∈ (List.range (es.length - i)).filter fun u => decide (lvA es (i + 1 + u) = lvA es i) := by rw [e]; exact List.mem_cons_self ..
    exact List.mem_range.mp (List.mem_filter.mp this).1⟩
theorem lvs_at {es : List PyData} {n j : Nat} (h : j ≤ n) : (lvsV es n)[j]? = some (V.int (lvA es j)) := by
  unfold lvsV
  rw [List.getElem?_map, List.getElem?_range (by omega)]
  rfl
theorem ints_all : ∀ L : List Int, fitA (L.map PyData.int) = true ∧ PyData.canLayAll0 (L.map PyData.int) = true ∧ PyData.depthAll (L.map PyData.int) = 0
  | [] => ⟨rfl, rfl, rfl⟩
  | x :: L => by
    obtain ⟨a, b, c⟩ := ints_all L
    refine ⟨?_, ?_, ?_⟩
    · simp only [List.map_cons, fitA, fitD, a, Bool.and_self]
    · simp only [List.map_cons, PyData.canLayAll0, PyData.canLay0, b, Bool.and_self]
    · simp only [List.map_cons, PyData.depthAll, PyData.depth, c]
      rfl
theorem okD_ints {L : List Int} (h : L.length ≤ 100000) : OkD (.list (L.map PyData.int)) := by
  obtain ⟨a, b, c⟩ := ints_all L
  exact ⟨by simp only [fitD, List.length_map, a, Bool.and_true, decide_eq_true_eq]; exact h, by simp only [PyData.canLay0]; exact b, by simp only [PyData.depth, c]; decide⟩
theorem ints_dp {K : PySem.W.Frag} {H : Hp} : ∀ L : List Int, DpAll K H (L.map V.int) (L.map PyData.int)
  | [] => .nil
  | x :: L => .cons (.int x) (ints_dp L)
theorem ne_nil {K : PySem.W.Frag} {H : Hp} {D E : Addr} {xs : List V} {ds : List PyData} {Q : VK} (h : SqL K H D xs) (hd : DpAll K H xs ds) (sh : SeqAt.shaped (.list ds) = true) (hE : H E = some (.lst [])) (q : Q (.bl (!ds.isEmpty)) H) : rNeD K (.ref D) (.ref E) H Q := by
  refine ⟨.list ds, .list [], .lst h hd, .lst (SqL.of hE) .nil, sh, (by decide +kernel), ?_⟩
  have e : PyData.eqv (.list ds) (.list []) = ds.isEmpty := by
    cases ds <;> simp [PyData.eqv, PyData.eqvAll]
  rw [e]
  exact q
theorem sel_ints (c : Nat → Bool) (f : Nat → Int) (n : Nat) : sel c (fun u => .int (f u)) n = (((List.range n).filter c).map f).map V.int := by
  unfold sel
  rw [List.map_map]
  rfl
theorem flt_len (c : Nat → Bool) (n : Nat) : ((List.range n).filter c).length ≤ n := Nat.le_trans (List.length_filter_le _ _) (by rw [List.length_range]; exact Nat.le_refl _)
end K6

set_option Elab.async false
set_option linter.all false
set_option maxRecDepth 100000
set_option maxHeartbeats 4000000
namespace K6
open PySem PySem.Spec PyProof.Rows L2 So SoFr SoC
/-! ### a def of the program, as it is called -/
structure Fx (Pg : Program) (w : World) (K : PySem.W.Frag) (mg : Str → Option Value) (base : Heap) (CX : CXT) (k : Nat) (x : Str) (ps : List Str) (sp : Sp) where
  f : Addr
  fd : FuncData
  g : mg x = some (.ref f)
  kp : PySem.W.keepIn K (.ref f) = true
  b : Binds K fd ps []
  ok : FnOk Pg w K mg base CX k f fd ps sp
structure Fx1 (Pg : Program) (w : World) (K : PySem.W.Frag) (mg : Str → Option Value) (base : Heap) (CX : CXT) (k : Nat) (x p : Str) (sp : Sp) extends Fx Pg w K mg base CX k x [p] sp where
  kb : KBinds K fd [p] [p] g1 g1
structure Fx2 (Pg : Program) (w : World) (K : PySem.W.Frag) (mg : Str → Option Value) (base : Heap) (CX : CXT) (k : Nat) (x p q : Str) (sp : Sp) extends Fx Pg w K mg base CX k x [p, q] sp where
  kb : KBinds K fd [p, q] [q, p] g2 g2
structure FxS (Pg : Program) (w : World) (K : PySem.W.Frag) (mg : Str → Option Value) (base : Heap) (k : Nat) (x : Str) (ps : List Str) (sp : Shared → Sp) where
  f : Addr
  fd : FuncData
  g : mg x = some (.ref f)
  kp : PySem.W.keepIn K (.ref f) = true
  b : Binds K fd ps []
  ok : FnS Pg w K mg base CX0 k f fd ps sp
theorem pe_askL {X : Cx} {P CS CR : Addr} {N : List Str} {js : List Nat} {t : XK → TE} {ta : TA} {e : Expr} {p pos : Pos} (Hrd : FxS X.prog X.w X.K X.mg X.base 9 "_law_heard" ["ask"] (spHrd X.prog X.w X.K X.mg X.base P CS CR)) (hgd : X.A.guards = some []) (hr : Room 9 X.A) (hg : Gl X "_law_heard") (ha : PA X [e] ta)
    (he : starEach (e :: []) X.env = (false, eval e X.env) :: starEach [] X.env := by rfl) (hpl : (backTo pos (starEach [] X.env)).any (·.1) = false := by rfl) : PE X (.Call (.Name "_law_heard" p) [e] [] pos) (tCallF (preL X P CS CR N js t) ta) :=
  pe_callF Hrd.ok hgd hr (Nat.le_refl _) hg Hrd.g Hrd.kp Hrd.b pass0 (fun _ _ _ _ _ _ I q => preL_of I q) ha (by decide) he hpl
/-- nothing is raised here -/
def noE : XK := fun _ _ _ => False
theorem passF {X : Cx} : Passes (L2.CX X.prog X.w) X noE := passes_call takes0 fun _ _ _ _ h => h
/-! ### lines -/
structure PrL (es : List PyData) : Prop where
  rd : ∃ l, rdD (.tuple es) 0 = .inr l
  tp : es.map tupD = es
  ok : OkD (.tuple es)
  ag : es.all agS = true
  le : es.length ≤ 1000
  lb : ∀ d ∈ es, ∀ a z, itD d = [a, .str z] → isS a "open" = true → lgB (.str z) = true
theorem PrL.pr {es : List PyData} (h : PrL es) : PrE es ∧ rdD (.tuple es) 0 = .inr (lvA es es.length) ∧ prD (.tuple es) = none := by
  obtain ⟨l, e⟩ := h.rd
  have q := rd_pr h.ok e
  have e1 : (itD (.tuple es)).map tupD = es := h.tp
  rw [e1] at q
  refine ⟨q.1, ?_, ?_⟩
  · rw [e, q.2]
    rfl
  · unfold prD
    rw [e]
theorem opl_le {es : List PyData} (pr : PrE es) : ∀ i, i ≤ es.length → (oplD es i).length ≤ i
  | 0, _ => Nat.le_refl _
  | i + 1, h => by
    have hi : i < es.length := h
    have e : es[i]? = some es[i] := List.getElem?_eq_getElem hi
    have ih := opl_le pr i (Nat.le_of_lt hi)
    obtain ⟨sg, _⟩ := pr.sg es[i] (List.getElem_mem hi)
    obtain ⟨hq, a, r, ea⟩ := sgn_cons sg
    rw [opl_succ e]
    unfold oplS
    rw [ea]
    dsimp only
    by_cases q : isS a "open" = true
    · obtain ⟨z, hr, _⟩ := sgn_open sg ea q
      rw [if_pos q, List.length_append, hr, List.length_singleton]
      omega
    · rw [if_neg q]
      by_cases q2 : isS a "close" = true
      · rw [if_pos q2, List.length_dropLast]
        omega
      · rw [if_neg q2]
        omega
theorem opl_lg {es : List PyData} (pl : PrL es) (pr : PrE es) : ∀ i, i ≤ es.length → ∀ d ∈ oplD es i, lgB d = true
  | 0, _ => fun _ z => nomatch z
  | i + 1, h => by
    have hi : i < es.length := h
    have e : es[i]? = some es[i] := List.getElem?_eq_getElem hi
    have ih := opl_lg pl pr i (Nat.le_of_lt hi)
    obtain ⟨sg, _⟩ := pr.sg es[i] (List.getElem_mem hi)
    obtain ⟨hq, a, r, ea⟩ := sgn_cons sg
    rw [opl_succ e]
    unfold oplS
    rw [ea]
    dsimp only
    by_cases q : isS a "open" = true
    · obtain ⟨z, hr, _⟩ := sgn_open sg ea q
      rw [if_pos q]
      intro d hd
      rcases List.mem_append.mp hd with m | m
      · exact ih d m
      · rw [hr] at m ea
        rw [List.mem_singleton.mp m]
        exact pl.lb es[i] (List.getElem_mem hi) a z ea q
    · rw [if_neg q]
      by_cases q2 : isS a "close" = true
      · rw [if_pos q2]
        exact fun d hd => ih d ((List.dropLast_sublist _).subset hd)
      · rw [if_neg q2]
        exact ih
theorem lv_lg {es : List PyData} (pl : PrL es) (pr : PrE es) {i : Nat} (h : i ≤ es.length) : lgB (.int (lvA es i)) = true := by
  have l := pl.le
  have e := opl_len pr i h
  have b := opl_le pr i h
  rw [← e]
  exact List.all_eq_true.mp lg_ints _ (List.mem_range.mpr (by omega))
/-- what depth, depths and open_labels answer -/
def threeD (es : List PyData) : PyData := .list [.int (lvA es es.length), .tuple (lvsD es), .tuple (oplD es es.length)]
theorem gd_mono {h h' W W' : Nat} {d : PyData} (g : GD h W d) (a : h ≤ h') (b : W ≤ W') : GD h' W' d := ⟨g.sh, g.di, Nat.le_trans g.de a, g.le, Nat.le_trans g.we b⟩
theorem rep_gd {h W : Nat} {d : PyData} (g : GD h W d) (a : h ≤ 60) (b : W ≤ 1000000) (n : repOk d = (d.showable = true ∧ d.hasDict = false ∧ d.depth ≤ 60 ∧ d.shown.length ≤ sizeLine)) : repOk d := by
  rw [n]
  exact ⟨g.sh, g.di, Nat.le_trans g.de a, gd_fits g b⟩
theorem three_ok {es : List PyData} (pl : PrL es) : repOk (threeD es) := by
  obtain ⟨pr, _⟩ := pl.pr
  have le := pl.le
  have l1 : (lvsD es).length ≤ 1001 := by unfold lvsD; rw [List.length_map, List.length_range]; omega
  have l2 : (oplD es es.length).length ≤ 1001 := Nat.le_trans (opl_le pr _ (Nat.le_refl _)) (by omega)
  have g1 : GD 1 (1001 * 13) (.tuple (lvsD es)) := gd_tup (h := 0) (W := 12) (fun d hd => by
    unfold lvsD at hd
    obtain ⟨j, hj, rfl⟩ := List.mem_map.mp hd
    exact gd_leaf (lv_lg pl pr (by have := List.mem_range.mp hj; omega))) l1
  have g2 : GD 1 (1001 * 13) (.tuple (oplD es es.length)) := gd_tup (h := 0) (W := 12) (fun d hd => gd_leaf (opl_lg pl pr _ (Nat.le_refl _) d hd)) l2
  have g0 : GD 1 (1001 * 13) (.int (lvA es es.length)) := gd_mono (gd_leaf (lv_lg pl pr (Nat.le_refl _))) (by decide) (by decide)
  exact rep_gd (h := 2) (W := 3 * (1001 * 13 + 1)) (gd_lst (fun d hd => by
    rcases List.mem_cons.mp hd with rfl | hd
    · exact g0
    · rcases List.mem_cons.mp hd with rfl | hd
      · exact g1
      · rw [List.mem_singleton.mp hd]
        exact g2) (by show 3 ≤ 3; decide)) (by decide) (by decide) rfl
theorem okD_list {es : List PyData} (h : OkD (.tuple es)) : OkD (.list es) := by
  obtain ⟨h1, h2, h3⟩ := h
  simp only [fitD] at h1
  simp only [PyData.canLay0] at h2
  simp only [PyData.depth] at h3
  exact ⟨by simp only [fitD]; exact h1, by simp only [PyData.canLay0]; exact h2, by simp only [PyData.depth]; exact h3⟩
section
variable {Pg : Program} {w : World} {K : PySem.W.Frag} {mg : Str → Option Value} {base : Heap} {P CS CR : Addr} {L : List (Addr × Str)}
abbrev nPrr : List Str := ["box", "line", "levels", "labels", "sign", "at", "some", "closes", "odd", "place"]
theorem scPrr : FnScope nPrr ["box", "line"] (defScope sPrr) := ⟨rfl, rfl, rfl, by decide +kernel, rfl, by decide +kernel, by decide +kernel⟩
def spPrr (K : PySem.W.Frag) (P : Addr) (L : List (Addr × Str)) : Shared → Sp := fun _ vs H Q _ => ∃ (G : Hp) (b : Addr) (v : V) (es : List PyData), vs = [.ref b, v] ∧ Lv L P G ∧ BxG G b H ∧ Dp K G v (.tuple es) ∧ PrL es ∧ ∀ G' H', Mv L P G G' → BxG G' b H' → Q (.bl true) H'
def tRep (K : PySem.W.Frag) (P : Addr) : TS := fun D σ H => ∃ (v : V) (p q : Addr) (es : List PyData) (xs : List V), σ[1]? = some (some v) ∧ σ[2]? = some (some (.ref p)) ∧ σ[3]? = some (some (.ref q)) ∧ GxR.TabG H P ∧ Dp K H v (.tuple es) ∧ PrL es ∧ H p = some (.lst (lvsV es es.length)) ∧ H q = some (.lst xs) ∧ DpAll K H xs (oplD es es.length) ∧
  ∀ H', Sm P H H' → D.nx σ H'
theorem free_by {sc scope : Scope} (h : ∀ y ∈ scope.names, y.2 = .free → sc.names.lookup y.1 = some .cell ∨ sc.names.lookup y.1 = some .free) : ∀ y ∈ scope.names, y.2 = .free → sc.names.lookup y.1 = some .cell ∨ sc.names.lookup y.1 = some .free := h
theorem passN {X : Cx} {W : WX} {E : XK} (t : Takes X W) (h : ∀ cls d σ H, E cls d H → W cls d σ H) : Passes (L2.CX X.prog X.w) X E := passes_call t h
/-- node_behind(line, odd) -/
abbrev tNb (K : PySem.W.Frag) (P CS CR : Addr) : XK → TE := fun E => tCall (spNbh K P CS CR) [] E (tCons (tVar 0) (tCons (tVar 1) tNil))
theorem lvs_cons (es : List PyData) : [V.int 0] ++ (List.range es.length).map (fun j => V.int (0 + lvA es (j + 1))) = lvsV es es.length := by
  unfold lvsV
  rw [List.range_succ_eq_map, List.map_cons, List.map_map, lvA_zero]
  show V.int 0 :: _ = _
  congr 1
  refine List.map_congr_left fun j _ => ?_
  show V.int (0 + lvA es (j + 1)) = V.int (lvA es (j + 1))
  rw [Int.zero_add]
/-- an item of a line -/
theorem line_at {es : List PyData} (pl : PrL es) (pr : PrE es) {H : Hp} {vs : List V} {i : Nat} {x : V} (h : DpAll K H vs es) (hx : vs[i]? = some x) : ∃ (d : PyData) (q : Addr) (xs : List V) (x0 : V) (z : Str) (r : List PyData), es[i]? = some d ∧ x = .ref q ∧ d = .tuple (.str z :: r) ∧ SqT K H q (x0 :: xs) ∧ x0 = .str z ∧ DpAll K H xs r ∧ sgnD d = true := by
  obtain ⟨d, hd, hxd⟩ := dpa_at h hx
  have mem := List.mem_of_getElem? hd
  obtain ⟨sg, okd⟩ := pr.sg d mem
  have e1 : tupD d = d := by
    have := congrArg (fun l => l[i]?) pl.tp
    simp only [List.getElem?_map, hd, Option.map_some] at this
    exact Option.some.inj this
  obtain ⟨ds, e2⟩ := tup_tuple (d := d) (by rw [tup_sgn]; exact sg)
  rw [e1] at e2
  subst e2
  obtain ⟨q, xs, rfl, hq, hxs⟩ := dp_tup hxd
  have hh := sg
  obtain ⟨hq2, a, r, ea⟩ := sgn_cons sg
  cases (show ds = a :: r from ea)
  obtain ⟨z, rfl⟩ : ∃ z, a = .str z := by
    unfold sgnD fauD at hh
    rw [show itD (.tuple (a :: r)) = a :: r from rfl] at hh
    cases a with
    | str z => exact ⟨z, rfl⟩
    | _ => cases r with
      | nil => exact nomatch hh
      | cons b r => cases r <;> exact nomatch hh
  cases hxs with
  | cons h0 hr =>
    cases h0
    exact ⟨_, q, _, _, z, r, hd, rfl, rfl, hq, rfl, hr, sg⟩
theorem gd_oi {es : List PyData} (le : es.length ≤ 1000) {i : Nat} (h : i ≤ es.length) : GD 0 12 (oiD (nbF (es.drop i) i 0)) := by
  rcases plS_head h with ⟨_, e⟩ | ⟨u, _, _, e, hu⟩
  · rw [e]
    exact gd_leaf lg_non
  · rw [e]
    show GD 0 12 (.int ((i : Int) + 1 + u))
    rw [show ((i : Int) + 1 + u) = ((i + 1 + u : Nat) : Int) by omega]
    exact gd_leaf (List.all_eq_true.mp lg_ints _ (List.mem_range.mpr (by omega)))
theorem two_ok {d : PyData} (g : GD 0 12 d) : repOk (.list [d, d]) :=
  rep_gd (h := 1) (W := 2 * 13) (gd_lst (h := 0) (W := 12) (n := 2) (fun x hx => by
    rcases List.mem_cons.mp hx with rfl | hx
    · exact g
    · rw [List.mem_singleton.mp hx]
      exact g) (by show 2 ≤ 2; decide)) (by decide) (by decide) rfl
/-- small data that is refused, and can be told -/
def flB : PyData → Bool
  | .none => PyData.strOk (repD .none)
  | .bool b => PyData.strOk (repD (.bool b))
  | .int i => decide (i.natAbs.log2 < 1920) && PyData.strOk (repD (.int i))
  | .str z => decide ((reprText z).length ≤ 1000) && (PyData.strOk (repD (.str z)) && (decide (z.length ≤ 1000) && PyData.strOk z))
  | _ => false
theorem fl_ints : (List.range 1100).all (fun n => flB (.int (n : Nat))) = true := by decide +kernel
theorem fl_else : [PyData.none, .int (-1), .bool true, .str "0"].all flB = true := by decide +kernel
theorem fl_rep {U : PyData} (h : flB U = true) : repOk U ∧ PyData.strOk (repD U) = true := by
  cases U with
  | none => exact ⟨trivial, h⟩
  | bool b => exact ⟨trivial, h⟩
  | int i =>
    simp only [flB, Bool.and_eq_true, decide_eq_true_eq] at h
    exact h
  | str z =>
    simp only [flB, Bool.and_eq_true, decide_eq_true_eq] at h
    exact ⟨Nat.le_trans h.1 (by decide), h.2.1⟩
  | _ => exact nomatch h
theorem fl_dp {K : PySem.W.Frag} {H H' : Hp} {v : V} {U : PyData} (h : flB U = true) (d : Dp K H v U) : Dp K H' v U := by
  cases d with
  | non => exact .non
  | bl b => exact .bl b
  | int i => exact .int i
  | str z => exact .str z
  | lst _ _ => exact nomatch h
  | tup _ _ => exact nomatch h
/-- what is heard of a refusal -/
def hdD (w : Str) (U : PyData) : PyData := .tuple [.str w, .str (repD U), .bool true]
theorem hd_eqv (w : Str) (U : PyData) : (hdD w U).eqv (hdD w U) = true := by
  simp [hdD, PyData.eqv, PyData.eqvAll]
theorem hd_sh {w : Str} {U : PyData} (h1 : PyData.strOk w = true) (h2 : PyData.strOk (repD U) = true) : SeqAt.shaped (hdD w U) = true := by
  unfold SeqAt.shaped hdD
  simp [PyData.canLay0, PyData.canLayAll0, PyData.depth, PyData.depthAll, h1, h2]
/-- where signs close -/
def clS (es : List PyData) (j : Nat) : Bool := match es[j]? with
  | some d => isCl d
  | none => false
theorem nb_cl {es : List PyData} {j : Nat} (h : clS es j = true) : nbD es (.int (j : Nat)) = none := by
  unfold clS at h
  unfold nbD
  dsimp only
  cases e : es[j]? with
  | none =>
    rw [e] at h
    exact nomatch h
  | some d =>
    rw [e] at h
    have hl := (List.getElem?_eq_some_iff.mp e).1
    rw [if_pos ⟨by omega, by omega⟩, Int.toNat_natCast, e]
    dsimp only
    rw [if_pos h]
/-- what is asked of a line -/
theorem odd_of {es : List PyData} (le : es.length ≤ 1000) {v : V} (h : v ∈ [V.non, .int (es.length : Nat), .int (-1), .bl true, .str "0"] ++ (sel (clS es) (fun j => .int (j : Nat)) es.length).take 2) : ∃ U, (∀ (K : PySem.W.Frag) (H : Hp), Dp K H v U) ∧ flB U = true ∧ nbD es U = none := by
  have fe := List.all_eq_true.mp fl_else
  rcases List.mem_append.mp h with h | h
  · simp only [List.mem_cons, List.not_mem_nil, or_false] at h
    rcases h with rfl | rfl | rfl | rfl | rfl
    · exact ⟨.none, fun _ _ => .non, fe _ (by simp), rfl⟩
    · refine ⟨.int (es.length : Nat), fun _ _ => .int _, List.all_eq_true.mp fl_ints _ (List.mem_range.mpr (by omega)), ?_⟩
      unfold nbD
      dsimp only
      rw [if_neg (by omega)]
    · refine ⟨.int (-1), fun _ _ => .int _, fe _ (by simp), ?_⟩
      unfold nbD
      dsimp only
      rw [if_neg (by omega)]
    · exact ⟨.bool true, fun _ _ => .bl _, fe _ (by simp), rfl⟩
    · exact ⟨.str "0", fun _ _ => .str _, fe _ (by simp), rfl⟩
  · have m := List.mem_of_mem_take h
    unfold sel at m
    obtain ⟨j, hj, rfl⟩ := List.mem_map.mp m
    obtain ⟨h1, h2⟩ := List.mem_filter.mp hj
    have := List.mem_range.mp h1
    exact ⟨.int (j : Nat), fun _ _ => .int _, List.all_eq_true.mp fl_ints _ (List.mem_range.mpr (by omega)), nb_cl h2⟩
theorem pl_ints (es : List PyData) (i : Nat) : ∃ I : List Int, plS es i = I.map V.int ∧ I.length ≤ es.length - i := ⟨_, sel_ints _ _ _, by rw [List.length_map]; exact flt_len _ _⟩
theorem rep_rhs {σ : L2.St} {H : Hp} {p q : Addr} {es xs : _} {Q : VK} (e2 : σ[2]? = some (some (.ref p))) (e3 : σ[3]? = some (some (.ref q))) (t : GxR.TabG H P) (pl : PrL es) (hp : H p = some (.lst (lvsV es es.length))) (hq : H q = some (.lst xs)) (hxs : DpAll K H xs (oplD es es.length))
    (k : ∀ H', Sm P H H' → Q (.str (repD (threeD es))) H') : tCB (rReprA K) (tCons (tLst (tCons (tOp (rIxL K) (tVar 2) (tUn (rU fun i => V.int (-i)) (tC (V.int 1)))) (tCons (tThen (tVar 2) (kTup K)) (tCons (tThen (tVar 3) (kTup K)) tNil)))) tNil) σ H Q := by
  obtain ⟨ys, ey⟩ := lvs_last es es.length
  refine ⟨_, e2, 1, rfl, p, _, -1, .int (lvA es es.length), rfl, rfl, SqL.of hp, by rw [ey]; exact atI_last ys _, _, e2, .inl ⟨p, _, rfl, SqL.of hp, fun m1 hm1 => ?_⟩⟩
  have s1 := Sm.new t hm1 (o := .tup (lvsV es es.length))
  refine ⟨_, e3, .inl ⟨q, xs, rfl, SqL.of (s1.atL t hq), fun m2 hm2 => ?_⟩⟩
  have s2 := s1.trans (Sm.new s1.2 hm2 (o := .tup xs))
  refine ⟨(by show 3 ≤ sizeLine; decide), fun m3 hm3 => ?_⟩
  have s3 := s2.trans (Sm.new s2.2 hm3 (o := .lst [.int (lvA es es.length), .ref m1, .ref m2]))
  refine ⟨.ref m3, threeD es, rfl, ?_, three_ok pl, k _ s3⟩
  have s23 := (Sm.new s1.2 hm2 (o := .tup xs)).trans (Sm.new s2.2 hm3 (o := .lst [.int (lvA es es.length), .ref m1, .ref m2]))
  refine .lst (.inl (.inl upd_same)) (.cons (.int _) (.cons ?_ (.cons ?_ .nil)))
  · exact Dp.mono s1.2 s23 (.tup (.inl (.inl upd_same)) (lvs_dp _))
  · exact Dp.mono s2.2 (Sm.new s2.2 hm3 (o := .lst [.int (lvA es es.length), .ref m1, .ref m2])) (.tup (.inl (.inl upd_same)) (DpAll.mono t s2 hxs))
end
end K6

set_option Elab.async false
set_option linter.all false
set_option maxRecDepth 100000
set_option maxHeartbeats 4000000
namespace K6
open PySem PySem.Spec PyProof.Rows L2 So SoFr SoC
section
variable {Pg : Program} {w : World} {K : PySem.W.Frag} {mg : Str → Option Value} {base : Heap} {P CS CR : Addr} {L : List (Addr × Str)}
theorem ok_prr {f c Pl : Addr} {fd : FuncData} (F : DfC K mg "_law_prefix_right" sPrr ["box", "line"] f fd c) (T : Ty K mg) (TB : LamX.TabB base mg c Pl) (ap : Apart L P) (hP : Pl ≠ P) (hm : (Pl, ("_law_prefix_right" : Str) ++ ".<locals>." ++ "<lambda>") ∈ L) (hu2 : ∀ p ∈ L, p.1 = Pl → p.2 = ("_law_prefix_right" : Str) ++ ".<locals>." ++ "<lambda>")
    (Dep : Fx1 Pg w K mg base (L2.CX Pg w) 5 "depth" "prefix" (spDep K P CS)) (Dps : Fx1 Pg w K mg base (L2.CX Pg w) 6 "depths" "prefix" (spDps K P CS)) (Opl : Fx1 Pg w K mg base (L2.CX Pg w) 6 "open_labels" "prefix" (spOpl K P CS)) (Nbh : Fx2 Pg w K mg base (L2.CX Pg w) 6 "node_behind" "prefix" "at" (spNbh K P CS CR))
    (Led : Fx Pg w K mg base CX0 1 "_law_led" ["value", "many"] (spLed K P)) (Pck : Fx Pg w K mg base CX0 2 "_law_pick" ["box", "some"] (spPckG K)) (Hrd : FxS Pg w K mg base 9 "_law_heard" ["ask"] (spHrd Pg w K mg base P CS CR)) :
    FnS Pg w K mg base CX0 10 f fd ["box", "line"] (spPrr K P L) := by
  refine okC F scPrr (fun s vs H Q E h => ?_) (fun A outer s H vs Q E hr hgd h => ?_)
  · obtain ⟨_, _, _, _, rfl, _⟩ := h
    rfl
  · obtain ⟨G, b, v, es, rfl, lv, hb, hv, pl, k⟩ := h
    have hu := hr.units
    have r1 : Room 1 _ := hr.mono (by decide)
    have r2 : Room 2 _ := hr.mono (by decide)
    have r5 : Room 5 _ := hr.mono (by decide)
    have r6 : Room 6 _ := hr.mono (by decide)
    refine ⟨_, pss_cons (ps_set (i := 2) scPrr.nd rfl (Or.inr rfl) (pe_op op_cat (pe_lst (pa_cons pe_int pa_nil)) (pe_ix ix_tup (pe_call Led.ok r1 (by rfl) Led.g Led.kp Led.b .nil pass0 (pa_cons (pv 1) (pa_cons pe_int pa_nil))) pe_int (fun _ _ => rfl))))
      (pss_cons (ps_set (i := 3) scPrr.nd rfl (Or.inl rfl) (pe_lst pa_nil))
      (pss_cons (ps_for (passes_of rfl) rfl (pi_tup (pv 1)) (pg_name (i := 4) scPrr.nd rfl (Or.inl rfl)) (pss_one (ps_set (i := 3) scPrr.nd rfl (Or.inl rfl)
          (pe_ifExp (pt_cmpR (op_eqD hu) (pe_ix ix_tup (pv 4) pe_int (fun _ _ => rfl)) pe_str (nomark _)) (pe_op op_cat (pv 3) (pe_lst (pa_cons (pe_ix ix_tup (pv 4) pe_int (fun _ _ => rfl)) pa_nil)))
            (pe_ifExp (pt_cmpR (op_eqD hu) (pe_ix ix_tup (pv 4) pe_int (fun _ _ => rfl)) pe_str (nomark _)) (pe_slice sl_list (pv 3) po_none (po_some (pe_op op_sub (pe_callB call_len_seq (by rfl) T.T.len (by decide +kernel) (pa_cons (pv 3) pa_nil)) pe_int))) (pv 3))))))
      (pss_cons (ps_weak (t' := tRep K P) (ps_if (pt_cmpR op_ne (pe_callB (call_reprA hgd hu) (by rfl) T.repr (by decide +kernel) (pa_cons (pe_lst (pa_cons (pe_call Dep.ok r5 (by rfl) Dep.g Dep.kp Dep.b .nil passF (pa_cons (pv 1) pa_nil))
            (pa_cons (pe_callK0 Dps.ok r6 (by rfl) Dps.g Dps.kp Dps.kb passF (pk_cons (pe_callTy call_list_of (by rfl) T.T.list (by decide +kernel) (pa_cons (pv 1) pa_nil)) pk_nil)) (pa_cons (pe_call Opl.ok r6 (by rfl) Opl.g Opl.kp Opl.b .nil passF (pa_cons (pv 1) pa_nil)) pa_nil)))) pa_nil))
            (pe_callB (call_reprA hgd hu) (by rfl) T.repr (by decide +kernel) (pa_cons (pe_lst (pa_cons (pe_ix ix_list (pv 2) (pe_un un_neg pe_int) (fun _ _ => rfl)) (pa_cons (pe_tupleOf (by rfl) T.T.tuple (pv 2)) (pa_cons (pe_tupleOf (by rfl) T.T.tuple (pv 3)) pa_nil)))) pa_nil)) (nomark _)) (pss_one (ps_ret pe_bl)) pss_nil) ?_)
      (pss_cons (ps_weak (t' := tRep K P) (ps_if (pt_cmpR op_ne (pe_callB (call_reprA hgd hu) (by rfl) T.repr (by decide +kernel) (pa_cons (pe_lst (pa_cons (pe_callK0 Dep.ok r5 (by rfl) Dep.g Dep.kp Dep.kb passF (pk_cons (pe_callTy call_list_of (by rfl) T.T.list (by decide +kernel) (pa_cons (pv 1) pa_nil)) pk_nil))
            (pa_cons (pe_call Dps.ok r6 (by rfl) Dps.g Dps.kp Dps.b .nil passF (pa_cons (pv 1) pa_nil)) (pa_cons (pe_callK0 Opl.ok r6 (by rfl) Opl.g Opl.kp Opl.kb passF (pk_cons (pe_callTy call_list_of (by rfl) T.T.list (by decide +kernel) (pa_cons (pv 1) pa_nil)) pk_nil)) pa_nil)))) pa_nil))
            (pe_callB (call_reprA hgd hu) (by rfl) T.repr (by decide +kernel) (pa_cons (pe_lst (pa_cons (pe_ix ix_list (pv 2) (pe_un un_neg pe_int) (fun _ _ => rfl)) (pa_cons (pe_tupleOf (by rfl) T.T.tuple (pv 2)) (pa_cons (pe_tupleOf (by rfl) T.T.tuple (pv 3)) pa_nil)))) pa_nil)) (nomark _)) (pss_one (ps_ret pe_bl)) pss_nil) ?_)
      (pss_cons (ps_for (passes_of rfl) rfl (SoE.pi_enumT (by rfl) T.T.enumerate (pa_cons (pv 1) pa_nil)) (pg_tup rfl (pgs_cons (pg_name (i := 5) scPrr.nd rfl (.inr rfl)) (pgs_cons (pg_name (i := 4) scPrr.nd rfl (.inl rfl)) pgs_nil)))
        (pss_cons (ps_if (pt_cmpR (op_eqD hu) (pe_ix ix_tup (pv 4) pe_int (fun _ _ => rfl)) pe_str (nomark _)) (pss_one ps_continue) pss_nil)
        (pss_cons (ps_setLc (i := 6) (own := [("place", 9)]) (g := gName 9) (tt := tTest (tOp rEq (tOp (rIxL K) (tVar 2) (tVar 9)) (tOp (rIxL K) (tVar 2) (tVar 5)))) rfl scPrr.nd rfl rfl (sw_true rfl rfl rfl (by decide +kernel)) (pi_range2 (by rfl) T.T.range (pa_cons (pe_op op_add (pv 5) pe_int) (pa_cons (pe_op op_add (pe_callB call_len_seq (by rfl) T.T.len (by decide +kernel) (pa_cons (pv 1) pa_nil)) pe_int) pa_nil))) (blkOk_by (N := nPrr) (sc := defScope sPrr) (by decide +kernel))
            (fun _ _ _ _ _ => pg_name (i := 9) scPrr.nd rfl (Or.inl rfl)) (fun _ _ _ _ _ => pts_one (show PT _ _ (tTest (tOp rEq (tOp (rIxL K) (tVar 2) (tVar 9)) (tOp (rIxL K) (tVar 2) (tVar 5)))) from pt_cmpR op_eq (pe_ix ix_list (pv 2) (pv 9) (fun _ _ => rfl)) (pe_ix ix_list (pv 2) (pv 5) (fun _ _ => rfl)) (nomark _))) (fun _ _ _ _ _ => pv 9))
        (pss_one (ps_if (pt_cmpR op_ne (pe_callB (call_reprA hgd hu) (by rfl) T.repr (by decide +kernel) (pa_cons (pe_lst (pa_cons (pe_call Nbh.ok r6 (by rfl) Nbh.g Nbh.kp Nbh.b .nil passF (pa_cons (pv 1) (pa_cons (pv 5) pa_nil))) (pa_cons (pe_callK0 Nbh.ok r6 (by rfl) Nbh.g Nbh.kp Nbh.kb passF (pk_cons (pv 5) (pk_cons (pv 1) pk_nil))) pa_nil))) pa_nil))
            (pe_callB (call_reprA hgd hu) (by rfl) T.repr (by decide +kernel) (pa_cons (pe_op op_rep (pe_lst (pa_cons (pe_ifExp (pt_cmpR (op_neD hu) (pv 6) (pe_lst pa_nil) (nomark _)) (pe_ix ix_list (pv 6) pe_int (fun _ _ => rfl)) pe_non) pa_nil)) pe_int) pa_nil)) (nomark _)) (pss_one (ps_ret pe_bl)) pss_nil)))))
      (pss_cons (ps_setLc (i := 7) (own := [("at", 5), ("sign", 4)]) (g := gTup K 2 (gCons (gName 5) (gCons (gName 4) gNil))) (tt := tTest (tOp (rEqD K) (tOp (rIxT K) (tVar 4) (tC (.int 0))) (tC (.str "close")))) rfl scPrr.nd rfl rfl (sw_true rfl rfl rfl (by decide +kernel)) (SoE.pi_enumT (by rfl) T.T.enumerate (pa_cons (pv 1) pa_nil)) (blkOk_by (N := nPrr) (sc := defScope sPrr) (by decide +kernel))
            (fun _ _ _ _ _ => show PG _ _ (gTup K 2 (gCons (gName 5) (gCons (gName 4) gNil))) from pg_tup rfl (pgs_cons (pg_name (i := 5) scPrr.nd rfl (.inl rfl)) (pgs_cons (pg_name (i := 4) scPrr.nd rfl (.inl rfl)) pgs_nil))) (fun _ _ _ _ _ => pts_one (show PT _ _ (tTest (tOp (rEqD K) (tOp (rIxT K) (tVar 4) (tC (.int 0))) (tC (.str "close")))) from pt_cmpR (op_eqD hu) (pe_ix ix_tup (pv 4) pe_int (fun _ _ => rfl)) pe_str (nomark _))) (fun _ _ _ _ _ => pv 5))
      (pss_cons (ps_set (i := 8) scPrr.nd rfl (Or.inr rfl) (pe_call Pck.ok r2 (by rfl) Pck.g Pck.kp Pck.b .nil pass0 (pa_cons (pv 0) (pa_cons (pe_op op_cat (pe_lst (pa_cons pe_non (pa_cons (pe_callB call_len_seq (by rfl) T.T.len (by decide +kernel) (pa_cons (pv 1) pa_nil)) (pa_cons (pe_op op_sub pe_int pe_int) (pa_cons pe_bl (pa_cons pe_str pa_nil)))))) (pe_slice sl_list (pv 7) po_none (po_some pe_int))) pa_nil))))
      (pss_one (ps_ret (pe_cmpR (op_eqD hu) (pe_askL (N := ["line", "odd"]) (js := [1, 8]) (t := tNb K P CS CR) Hrd hgd hr (by rfl) (by exact pa_cons (pe_lamA (L := L) (P := P) (N := ["line", "odd"]) (fr := ["line", "odd"]) (js := [1, 8]) (k := 7) (t := tNb K P CS CR) TB rfl (by exact hm) (by exact hu2) hP rfl
              ⟨⟨rfl, rfl, rfl, by decide +kernel, rfl, by decide +kernel, by decide +kernel, by decide +kernel, by decide +kernel⟩, free_by (sc := defScope sPrr) (by decide +kernel), by decide +kernel, rfl, fun _ _ pm _ ctv => rfl,
                fun c f A outer s1 H1 E hr => pe_call Nbh.ok (hr.mono (by decide)) (by rfl) Nbh.g Nbh.kp Nbh.b .nil (passN (takes_of rfl rfl rfl rfl) fun _ _ _ _ h => h) (pa_cons (pv 0) (pa_cons (pv 1) pa_nil))⟩) pa_nil))
          (pe_tup (pa_cons pe_str (pa_cons (pe_callB (call_reprA hgd hu) (by rfl) T.repr (by decide +kernel) (pa_cons (pv 8) pa_nil)) (pa_cons pe_bl pa_nil)))) (nomark _))))))))))), ?_⟩
    · rintro D σ H ⟨v, p, q, es, xs, e1, e2, e3, t, hv, pl, hp, hq, hxs, k⟩
      obtain ⟨a, vs, rfl, ha, hvs⟩ := dp_tup hv
      obtain ⟨pr, rd, pn⟩ := pl.pr
      have okl := okD_list pl.ok
      refine ⟨_, e1, t, _, _, rfl, .tup ha hvs, pl.ok, ?_⟩
      rw [rd]
      intro H1 s1
      refine ⟨_, e1, a, vs, rfl, .inr (s1.tup t ha), fun l1 hl1 => ?_⟩
      have s2 := s1.trans (Sm.new s1.2 hl1 (o := .lst vs))
      refine ⟨s2.2, .ref l1, .list es, rfl, .lst (.inl (.inl upd_same)) (DpAll.mono t s2 hvs), okl, ?_⟩
      rw [show prD (.list es) = none from pn]
      intro v3 H3 s3 d3
      rw [show (itD (.list es)).map tupD = es from pl.tp] at d3
      have s13 := s2.trans s3
      refine ⟨_, e1, s13.2, _, _, rfl, Dp.mono t s13 (.tup ha hvs), pl.ok, ?_⟩
      rw [pn]
      intro v4 H4 s4 d4
      rw [show (itD (.tuple es)).map tupD = es from pl.tp] at d4
      have s14 := s13.trans s4
      refine ⟨(by show 3 ≤ sizeLine; decide), fun m hm => ?_⟩
      have s5 := s14.trans (Sm.new s14.2 hm (o := .lst [.int (lvA es es.length), v3, v4]))
      refine ⟨_, threeD es, rfl, .lst (.inl (.inl upd_same)) (.cons (.int _) (.cons (Dp.mono s13.2 (s4.trans (Sm.new s14.2 hm)) d3) (.cons (Dp.mono s14.2 (Sm.new s14.2 hm) d4) .nil))), three_ok pl, ?_⟩
      exact rep_rhs e2 e3 s5.2 pl (s5.atL t hp) (s5.atL t hq) (DpAll.mono t s5 hxs) fun H6 s6 => ⟨rfl, _, rfl, iteNS rfl (k _ (s5.trans s6))⟩
    · rintro D σ H ⟨v, p, q, es, xs, e1, e2, e3, t, hv, pl, hp, hq, hxs, k⟩
      obtain ⟨a, vs, rfl, ha, hvs⟩ := dp_tup hv
      obtain ⟨pr, rd, pn⟩ := pl.pr
      have okl := okD_list pl.ok
      refine ⟨_, e1, a, vs, rfl, .inr ha, fun l1 hl1 => ?_⟩
      have s1 := Sm.new t hl1 (o := .lst vs)
      refine ⟨s1.2, .ref l1, .list es, rfl, .lst (.inl (.inl upd_same)) (DpAll.mono t s1 hvs), okl, ?_⟩
      rw [show rdD (.list es) 0 = .inr (lvA es es.length) from rd]
      intro H2 s2'
      have s2 := s1.trans s2'
      refine ⟨_, e1, s2.2, _, _, rfl, Dp.mono t s2 (.tup ha hvs), pl.ok, ?_⟩
      rw [pn]
      intro v3 H3 s3 d3
      rw [show (itD (.tuple es)).map tupD = es from pl.tp] at d3
      have s13 := s2.trans s3
      refine ⟨_, e1, a, vs, rfl, .inr (s13.tup t ha), fun l4 hl4 => ?_⟩
      have s4n := Sm.new s13.2 hl4 (o := .lst vs)
      have s4 := s13.trans s4n
      refine ⟨s4.2, .ref l4, .list es, rfl, .lst (.inl (.inl upd_same)) (DpAll.mono t s4 hvs), okl, ?_⟩
      rw [show prD (.list es) = none from pn]
      intro v5 H5 s5' d5
      rw [show (itD (.list es)).map tupD = es from pl.tp] at d5
      have s5 := s4.trans s5'
      refine ⟨(by show 3 ≤ sizeLine; decide), fun m hm => ?_⟩
      have s6n := Sm.new s5.2 hm (o := .lst [.int (lvA es es.length), v3, v5])
      have s6 := s5.trans s6n
      refine ⟨_, threeD es, rfl, .lst (.inl (.inl upd_same)) (.cons (.int _) (.cons (Dp.mono s13.2 (s4n.trans (s5'.trans s6n)) d3) (.cons (Dp.mono s5.2 s6n d5) .nil))), three_ok pl, ?_⟩
      exact rep_rhs e2 e3 s6.2 pl (s6.atL t hp) (s6.atL t hq) (DpAll.mono t s6 hxs) fun H7 s7 => ⟨rfl, _, rfl, iteNS rfl (k _ (s6.trans s7))⟩
    · obtain ⟨pr, rd, pn⟩ := pl.pr
      have tH := (hb.lv ap lv).t
      have hvH : Dp K H v (.tuple es) := Dp.xt hb.sub hv
      obtain ⟨a, vs', rfl, ha, hvs⟩ := dp_tup hvH
      have lx : vs'.length = es.length := dpa_len hvs
      have le := pl.le
      have small : ∀ {m : Nat}, m ≤ 5000 → m ≤ sizeLine := fun h => Nat.le_trans h (by decide)
      refine ⟨(by show 1 ≤ sizeLine; decide), fun p0 hp0 => ?_⟩
      have s1 := Sm.new tH hp0 (o := .lst [.int 0])
      refine ⟨_, rfl, _, .tuple es, 0, rfl, s1.2, Dp.mono tH s1 hvH, pl.ok, pl.ag, (Int.le_refl _), fun r x y H2 s2 hr2 hm => ?_⟩
      rw [rd] at hm
      obtain ⟨rfl, q, rfl, hq⟩ := hm
      refine ⟨r, _, 0, _, rfl, rfl, hr2, atI_nat (j := 0) rfl, p0, q, _, _, rfl, rfl, s2.atL s1.2 upd_same, hq, small (by rw [List.length_map, List.length_range]; show 1 + es.length ≤ 5000; omega), fun p hp => ?_⟩
      rw [show itD (PyData.tuple es) = es from rfl, lvs_cons]
      have s3 := (s1.trans s2).trans (Sm.new s2.2 hp (o := .lst (lvsV es es.length)))
      obtain ⟨H3, eH3⟩ : ∃ H3, H3 = upd H2 p (.lst (lvsV es es.length)) := ⟨_, rfl⟩
      have hp3 : H3 p = some (.lst (lvsV es es.length)) := by rw [eH3, upd_same]
      rw [← eH3] at s3 ⊢
      refine ⟨Nat.zero_le _, fun l hl => ?_⟩
      have s4n := Sm.new s3.2 hl (o := .lst [])
      refine ⟨_, rfl, a, rfl, ⟨vs', (s3.trans s4n).tup tH ha⟩, for_tup (xs := vs') (fun i σ H' => ∃ (lb : Addr) (v4 : Option V) (ys : List V), σ = [some (.ref b), some (.ref a), some (.ref p), some (.ref lb), v4, none, none, none, none, none] ∧ Sm P H3 H' ∧ H' lb = some (.lst ys) ∧ DpAll K H' ys (oplD es i))
        ⟨l, none, [], rfl, s4n, upd_same, .nil⟩ (fun i σ H' _ ⟨_, _, _, _, s, _⟩ => (s3.trans s).tup tH ha) ?_ ?_⟩
      · rintro i x σ H' hx ⟨lb, v4, ys, rfl, s5, hlb, hys⟩
        have s35 := s3.trans s5
        obtain ⟨d, q1, xs, x0, z, rr, hdi, rfl, rfl, hq1, rfl, hrr, sg⟩ := line_at pl pr (DpAll.mono tH s35 hvs) hx
        have mem := List.mem_of_getElem? hdi
        have ok0 := okD_it (pr.sg _ mem).2 (.str z) (List.mem_cons_self ..)
        have ilen : i < es.length := (List.getElem?_eq_some_iff.mp hdi).1
        have ly : ys.length ≤ i := by rw [dpa_len hys]; exact opl_le pr i (Nat.le_of_lt ilen)
        refine ⟨_, rfl, q1, _, _, _, rfl, rfl, hq1, atI_nat (j := 0) rfl, .str z, .str "open", .str _, .str _, ok0.sh, by decide +kernel, _, rfl, ?_⟩
        rw [eqv_str]
        have step : oplD es (i + 1) = (if isS (.str z) "open" = true then oplD es i ++ rr else if isS (.str z) "close" = true then (oplD es i).dropLast else oplD es i) := by
          rw [opl_succ hdi]
          rfl
        refine ite2 (fun z1 => ?_) (fun z1 => ?_)
        · rw [if_pos z1] at step
          obtain ⟨y, rfl, _⟩ := sgn_open sg (show itD (PyData.tuple (.str z :: rr)) = .str z :: rr from rfl) z1
          cases hrr with
          | @cons y0 _ _ _ h0 hr0 =>
            cases hr0
            refine ⟨_, rfl, _, rfl, q1, _, _, _, rfl, rfl, hq1, atI_nat (j := 1) rfl, (by show 1 ≤ sizeLine; decide), fun m hm => ?_⟩
            have s6n := Sm.new s5.2 hm (o := .lst [y0])
            refine ⟨lb, m, ys, _, rfl, rfl, s6n.atL s5.2 hlb, upd_same, small (by show ys.length + 1 ≤ 5000; omega), fun m2 hm2 => ?_⟩
            have s7n := s6n.trans (Sm.new s6n.2 hm2 (o := .lst (ys ++ [y0])))
            refine ⟨m2, _, ys ++ [y0], rfl, s5.trans s7n, upd_same, ?_⟩
            rw [step]
            exact dpa_app (DpAll.mono s5.2 s7n hys) (.cons (Dp.mono s5.2 s7n h0) .nil)
        · rw [if_neg z1] at step
          refine ⟨_, rfl, q1, _, _, _, rfl, rfl, hq1, atI_nat (j := 0) rfl, .str z, .str "close", .str _, .str _, ok0.sh, by decide +kernel, _, rfl, ?_⟩
          rw [eqv_str]
          refine ite2 (fun z2 => ?_) (fun z2 => ?_)
          · rw [if_pos z2] at step
            refine ⟨_, rfl, _, rfl, lb, ys, rfl, .inl (SqL.of hlb), _, _, rfl, rfl, ?_⟩
            have h1 := opl_len pr i (Nat.le_of_lt ilen)
            have h2 := pr.lv (i + 1) ilen
            have h3 := lvA_succ hdi
            have h4 : stpD (PyData.tuple (.str z :: rr)) = -1 := by
              show (if isS (.str z) "open" = true then (1 : Int) else if isS (.str z) "close" = true then -1 else 0) = -1
              rw [if_neg z1, if_pos z2]
            have ly2 : ys.length = (oplD es i).length := dpa_len hys
            have e1 : (ys.length : Int) - 1 = ((ys.length - 1 : Nat) : Int) := by omega
            refine ⟨_, rfl, lb, ys, rfl, SqL.of hlb, fun m hm => ?_⟩
            rw [e1, cutT] at *
            have s6n := Sm.new s5.2 hm (o := .lst (ys.take (ys.length - 1)))
            refine ⟨m, _, _, rfl, s5.trans s6n, upd_same, ?_⟩
            rw [step, List.dropLast_eq_take, ← ly2]
            exact dpa_take _ (DpAll.mono s5.2 s6n hys)
          · rw [if_neg z2] at step
            exact ⟨_, rfl, lb, _, ys, rfl, s5, hlb, by rw [step]; exact hys⟩
      · rintro σ H' ⟨lb, v4, ys, rfl, s5, hlb, hys⟩
        rw [lx] at hys
        have s35 := s3.trans s5
        refine ⟨_, p, lb, es, ys, rfl, rfl, rfl, s35.2, Dp.mono tH s35 hvH, pl, s5.atL s3.2 hp3, hlb, hys, fun H6 s6 => ?_⟩
        have s36 := s35.trans s6
        refine ⟨_, p, lb, es, ys, rfl, rfl, rfl, s36.2, Dp.mono tH s36 hvH, pl, s6.atL s5.2 (s5.atL s3.2 hp3), s6.atL s5.2 hlb, DpAll.mono s5.2 s6 hys, fun H7 s7 => ?_⟩
        have s37 := s36.trans s7
        have hp7 : H7 p = some (.lst (lvsV es es.length)) := s7.atL s6.2 (s6.atL s5.2 (s5.atL s3.2 hp3))
        refine ⟨_, rfl, a, vs', rfl, s37.tup tH ha, for_it SoE.walk_enumT (fun i σ H' => ∃ (v4 v5 v6 : Option V), σ = [some (.ref b), some (.ref a), some (.ref p), some (.ref lb), v4, v5, v6, none, none, none] ∧ Sm P H7 H') ⟨_, _, _, rfl, Sm.refl s37.2⟩ (fun i σ' H' _ ⟨_, _, _, _, s⟩ => (s37.trans s).tup tH ha) ?_ ?_⟩
        · rintro i y σ Ha Hb hi ⟨v4, v5, v6, rfl, s8⟩ ⟨T1, x1, x, rfl, hT, rfl, e1, hx⟩
          cases e1
          have s9n := Sm.new s8.2 hT (o := .tup [.int (i : Nat), x])
          have s9 := s37.trans (s8.trans s9n)
          obtain ⟨d, q1, xs, x0, z, rr, hdi, rfl, rfl, hq1, rfl, hrr, sg⟩ := line_at pl pr (DpAll.mono tH s9 hvs) hx
          have mem := List.mem_of_getElem? hdi
          have ok0 := okD_it (pr.sg _ mem).2 (.str z) (List.mem_cons_self ..)
          have ilen : i < es.length := (List.getElem?_eq_some_iff.mp hdi).1
          have hp9 := s9n.atL s8.2 (s8.atL s37.2 hp7)
          refine ⟨T1, _, rfl, .inl (.inl upd_same), rfl, _, _, rfl, _, _, rfl, rfl, ?_⟩
          refine ⟨_, rfl, q1, _, _, _, rfl, rfl, hq1, atI_nat (j := 0) rfl, .str z, .str "close", .str _, .str _, ok0.sh, by decide +kernel, _, rfl, ?_⟩
          rw [eqv_str]
          refine ite2 (fun z1 => ⟨_, _, _, rfl, s8.trans s9n⟩) (fun z1 => ?_)
          have nb : nbD ((itD (PyData.tuple es)).map tupD) (.int (i : Nat)) = some (nbF (es.drop i) i 0) := by
            rw [show (itD (PyData.tuple es)).map tupD = es from pl.tp]
            unfold nbD
            dsimp only
            rw [if_pos ⟨by omega, by omega⟩, Int.toNat_natCast, hdi]
            dsimp only
            rw [if_neg (fun q => z1 ?_)]
            unfold isCl at q
            rw [show itD (PyData.tuple (.str z :: rr)) = .str z :: rr from rfl] at q
            cases rr with
            | nil => exact q
            | cons _ _ => exact nomatch q
          have ev : (((vs'.length : Int) + 1) - ((i : Int) + 1)).toNat = es.length - i := by omega
          refine ⟨_, rfl, _, _, rfl, rfl, _, rfl, a, vs', rfl, .inr (s9.tup tH ha), _, _, rfl, rfl, _, _, rfl, ⟨by omega, by omega, by omega, by omega⟩, fun Dc hDc => ?_⟩
          have hDP := nPt s9.2 hDc
          rw [ev]
          refine lc_range (lo := (i : Int) + 1) (n := es.length - i) (fun u H' => Sm P (upd Ha T1 (.tup [.int (i : Nat), .ref q1])) H' ∧ H' Dc = some (.lst (sel (fun u => decide (lvA es (i + 1 + u) = lvA es i)) (fun u => .int ((i : Int) + 1 + u)) u))) ⟨Sm.new s9.2 hDc, upd_same⟩ ?_ ?_
          · rintro u H' hu ⟨sc, hc⟩
            have hpc := sc.atL s9.2 hp9
            refine ⟨rfl, _, rfl, _, rfl, p, _, _, _, rfl, rfl, SqL.of hpc, by rw [show ((i : Int) + 1 + (u : Int)) = ((i + 1 + u : Nat) : Int) by omega]; exact atI_nat (lvs_at (by omega)), _, rfl, _, rfl, p, _, _, _, rfl, rfl, SqL.of hpc, atI_nat (lvs_at (Nat.le_of_lt ilen)), rfl, _, rfl, ?_⟩
            rw [dint]
            by_cases zc : lvA es (i + 1 + u) = lvA es i
            · rw [decide_eq_true zc]
              refine iteT ⟨_, rfl, _, hc, Nat.lt_of_le_of_lt (sel_len _ _ u) (Nat.lt_of_le_of_lt (show u ≤ 1000 by omega) (by decide)), sc.mut hDc hDP, ?_⟩
              rw [upd_same, sel_yes (decide_eq_true zc)]
            · rw [decide_eq_false zc]
              refine iteF ⟨sc, ?_⟩
              rw [sel_no (decide_eq_false zc)]
              exact hc
          · rintro H10 ⟨s10c, hc⟩
            have s10 := s9.trans s10c
            have hv10 : Dp K H10 (.ref a) (.tuple es) := Dp.mono tH s10 hvH
            refine ⟨_, rfl, _, rfl, s10.2, _, _, .tuple es, .int (i : Nat), rfl, hv10, pl.ok, .int _, ?_⟩
            rw [pn, nb]
            intro H11 s11
            have s1011 := s10.trans s11
            refine ⟨_, rfl, _, rfl, s11.2, _, _, .tuple es, .int (i : Nat), rfl, Dp.mono tH s1011 hvH, pl.ok, .int _, ?_⟩
            rw [pn, nb]
            intro H12 s12
            have s1012 := s11.trans s12
            have g0 := gd_oi le (Nat.le_of_lt ilen)
            have rok := two_ok g0
            obtain ⟨I, eI, lI⟩ := pl_ints es i
            have hd := plS_head (es := es) (Nat.le_of_lt ilen)
            obtain ⟨rr0, er0⟩ : ∃ r0, r0 = nbF (es.drop i) i 0 := ⟨_, rfl⟩
            rw [← er0] at rok hd ⊢
            refine ⟨(by show 2 ≤ sizeLine; decide), fun m hm => ?_⟩
            have s13n := Sm.new s12.2 hm (o := .lst [oiV rr0, oiV rr0])
            have s13 := s1012.trans s13n
            refine ⟨_, .list [oiD rr0, oiD rr0], rfl, .lst (.inl (.inl upd_same)) (.cons (oi_dp _) (.cons (oi_dp _) .nil)), rok, ?_⟩
            refine ⟨_, rfl, Nat.zero_le _, fun e he => ?_⟩
            have s14 := Sm.new s13.2 he (o := .lst [])
            have hc14 := s14.atL s13.2 (s13.atL s10.2 hc)
            rw [show sel (fun u => decide (lvA es (i + 1 + u) = lvA es i)) (fun u => .int ((i : Int) + 1 + u)) (es.length - i) = plS es i from rfl, eI] at hc14
            rw [eI] at hd
            refine ne_nil (SqL.of hc14) (ints_dp I) (okD_ints (by omega)).sh upd_same ?_
            have s8f := s8.trans (s9n.trans (s10c.trans (s11.trans (s12.trans (s13n.trans s14)))))
            cases I with
            | nil =>
              rcases hd with ⟨_, e0⟩ | ⟨u, r, e0, _⟩
              · subst e0
                refine ⟨false, rfl, iteF ⟨(by show 1 ≤ sizeLine; decide), fun n1 hn1 => ?_⟩⟩
                have s15 := Sm.new s14.2 hn1 (o := .lst [.non])
                refine ⟨n1, 2, _, rfl, rfl, upd_same, by decide, by decide, (by show 2 ≤ sizeLine; decide), fun n2 hn2 => ?_⟩
                have s16 := s15.trans (Sm.new s15.2 hn2 (o := .lst [.non, .non]))
                exact ⟨_, .list [.none, .none], rfl, .lst (.inl (.inl upd_same)) (.cons .non (.cons .non .nil)), rok, rfl, _, rfl, iteNS rfl ⟨_, _, _, rfl, s8f.trans s16⟩⟩
              · exact nomatch e0
            | cons x0 I =>
              rcases hd with ⟨e0, _⟩ | ⟨u, r, e0, e1, _⟩
              · exact nomatch e0
              · subst e1
                cases (List.cons.inj e0).1
                refine ⟨true, rfl, iteT ⟨_, rfl, Dc, _, 0, _, rfl, rfl, SqL.of hc14, atI_nat (j := 0) rfl, (by show 1 ≤ sizeLine; decide), fun n1 hn1 => ?_⟩⟩
                have s15 := Sm.new s14.2 hn1 (o := .lst [.int ((i : Int) + 1 + u)])
                refine ⟨n1, 2, _, rfl, rfl, upd_same, by decide, by decide, (by show 2 ≤ sizeLine; decide), fun n2 hn2 => ?_⟩
                have s16 := s15.trans (Sm.new s15.2 hn2 (o := .lst [.int ((i : Int) + 1 + u), .int ((i : Int) + 1 + u)]))
                exact ⟨_, .list [.int ((i : Int) + 1 + u), .int ((i : Int) + 1 + u)], rfl, .lst (.inl (.inl upd_same)) (.cons (.int _) (.cons (.int _) .nil)), rok, rfl, _, rfl, iteNS rfl ⟨_, _, _, rfl, s8f.trans s16⟩⟩
        · rintro σ H8 ⟨v4, v5, v6, rfl, s8⟩
          have s38 := s37.trans s8
          refine ⟨_, rfl, a, vs', rfl, s38.tup tH ha, fun Dc hDc => ?_⟩
          have hDP := nPt s38.2 hDc
          refine lc_it SoE.walk_enumT (fun u H' => Sm P H8 H' ∧ H' Dc = some (.lst (sel (clS es) (fun j => .int (j : Nat)) u))) ⟨Sm.new s38.2 hDc, upd_same⟩ (fun u H' _ q => (s38.trans q.1).tup tH ha) ?_ ?_
          · rintro u y Ha Hb hu ⟨sc, hc⟩ ⟨T1, x1, x, rfl, hT, rfl, e1, hx⟩
            cases e1
            have scn := Sm.new sc.2 hT (o := .tup [.int (u : Nat), x])
            have sc9 := s38.trans (sc.trans scn)
            obtain ⟨d, q1, xs, x0, z, rr, hdi, rfl, rfl, hq1, rfl, hrr, sg⟩ := line_at pl pr (DpAll.mono tH sc9 hvs) hx
            have mem := List.mem_of_getElem? hdi
            have ok0 := okD_it (pr.sg _ mem).2 (.str z) (List.mem_cons_self ..)
            have ulen : u < es.length := (List.getElem?_eq_some_iff.mp hdi).1
            have ecl : clS es u = isS (.str z) "close" := by
              unfold clS
              rw [hdi]
              show isCl (PyData.tuple (.str z :: rr)) = _
              unfold isCl
              rw [show itD (PyData.tuple (.str z :: rr)) = .str z :: rr from rfl]
              cases rr with
              | nil => rfl
              | cons b r =>
                cases hz : isS (.str z) "close" with
                | false => rfl
                | true =>
                  have := isS_iff.mp hz
                  cases this
                  unfold sgnD fauD at sg
                  rw [show itD (PyData.tuple (.str "close" :: b :: r)) = .str "close" :: b :: r from rfl] at sg
                  cases r with
                  | nil =>
                    dsimp only at sg
                    rw [if_neg (by decide +kernel), if_neg (by decide +kernel)] at sg
                    exact nomatch sg
                  | cons _ _ => exact nomatch sg
            refine ⟨T1, _, rfl, .inl (.inl upd_same), rfl, _, _, rfl, _, _, rfl, rfl, rfl, ?_⟩
            refine ⟨_, rfl, q1, _, _, _, rfl, rfl, hq1, atI_nat (j := 0) rfl, .str z, .str "close", .str _, .str _, ok0.sh, by decide +kernel, _, rfl, ?_⟩
            rw [eqv_str, ← ecl]
            have hc2 := scn.atL sc.2 hc
            refine ite2 (fun zc => ?_) (fun zc => ?_)
            · refine ⟨_, rfl, _, hc2, Nat.lt_of_le_of_lt (sel_len _ _ u) (Nat.lt_of_le_of_lt (show u ≤ 1000 by omega) (by decide)), (sc.trans scn).mut hDc hDP, ?_⟩
              rw [upd_same, sel_yes zc]
            · refine ⟨sc.trans scn, ?_⟩
              rw [sel_no (Bool.eq_false_iff.mpr zc)]
              exact hc2
          · rintro H9 ⟨s9', hc⟩
            rw [lx] at hc
            have s39 := s38.trans s9'
            refine ⟨_, rfl, _, rfl, a, vs', rfl, .inr (s39.tup tH ha), _, _, rfl, rfl, (by show 5 ≤ sizeLine; decide), fun m hm => ?_⟩
            rw [lx]
            have s10n := Sm.new s39.2 hm (o := .lst [.non, .int (es.length : Nat), .int (-1), .bl true, .str "0"])
            have s310 := s39.trans s10n
            refine ⟨_, rfl, _, rfl, Dc, _, rfl, SqL.of (s10n.atL s39.2 hc), fun m2 hm2 => ?_⟩
            have ec := cutT (sel (clS es) (fun j => .int (j : Nat)) es.length) 2
            have ec' : cutV (sel (clS es) (fun j => .int (j : Nat)) es.length) none (some 2) = (sel (clS es) (fun j => .int (j : Nat)) es.length).take 2 := ec
            rw [ec'] at *
            have s11n := Sm.new s10n.2 hm2 (o := .lst ((sel (clS es) (fun j => .int (j : Nat)) es.length).take 2))
            have s311 := s310.trans s11n
            refine ⟨m, m2, _, _, rfl, rfl, s11n.atL s10n.2 upd_same, upd_same, small (by rw [List.length_take]; show 5 + _ ≤ 5000; omega), fun m3 hm3 => ?_⟩
            have nb3 : m3 ≠ b := by
              obtain ⟨_, g, s, e, _⟩ := hb
              have h1 : H b = some (.lst [.int g, .int s]) := by rw [e, upd_same]
              exact Ne.symm (ne_of_none (s311.atL tH h1) hm3)
            have s12n := Sm.new s11n.2 hm3 (o := .lst ([V.non, .int (es.length : Nat), .int (-1), .bl true, .str "0"] ++ (sel (clS es) (fun j => .int (j : Nat)) es.length).take 2))
            have s312 := s311.trans s12n
            obtain ⟨H12, eH12⟩ : ∃ H12, H12 = upd (upd (upd H9 m (.lst [.non, .int (es.length : Nat), .int (-1), .bl true, .str "0"])) m2 (.lst ((sel (clS es) (fun j => .int (j : Nat)) es.length).take 2))) m3 (.lst ([V.non, .int (es.length : Nat), .int (-1), .bl true, .str "0"] ++ (sel (clS es) (fun j => .int (j : Nat)) es.length).take 2)) := ⟨_, rfl⟩
            have h12 : H12 m3 = some (.lst ([V.non, .int (es.length : Nat), .int (-1), .bl true, .str "0"] ++ (sel (clS es) (fun j => .int (j : Nat)) es.length).take 2)) := by rw [eH12, upd_same]
            rw [← eH12] at s312
            obtain ⟨bx, sG⟩ := hb.sm lv.t s312
            refine ⟨del H12 b, b, m3, _, rfl, (by have q := bx; rw [eH12] at q; rw [eH12]; exact q), .inl (.inl (by rw [del_ne nb3]; exact h12)), by rw [List.length_append]; show 0 < 5 + _; omega, by rw [List.length_append, List.length_take]; show 5 + _ < 1000; omega, fun jj vv H13 hjj hb13 => ?_⟩
            obtain ⟨U, dU, fU, nU⟩ := odd_of le (List.mem_of_getElem? hjj)
            obtain ⟨rU, oU⟩ := fl_rep fU
            have m12 := Sm.lv ap lv sG
            have lv13 := hb13.lv ap m12.2
            have dG := Dp.xt hb13.sub (Dp.mono lv.t sG hv)
            refine ⟨lv13, fun f' H14 mv nn hf la => ⟨mv.2.t, f', .err CR U, hdD "refused" U, rfl, la, .refused U rU, fun H15 Q' E' e15 sp => ?_, fun v16 H16 s16 d16 => ?_⟩⟩
            · refine ⟨_, rfl, _, rfl, sp.2.1, _, _, .tuple es, U, rfl, Dp.ext e15 (Dp.ext mv.1 dG), pl.ok, dU _ _, ?_⟩
              rw [pn, show nbD ((itD (.tuple es)).map tupD) U = none by rw [show (itD (PyData.tuple es)).map tupD = es from pl.tp]; exact nU]
              exact fun d H' s x => sp.2.2 d _ H' s x (dU _ _)
            · refine ⟨_, rfl, _, U, rfl, dU _ _, rU, (by show 3 ≤ sizeLine; decide), fun m hm => ?_⟩
              have s17 := Sm.new s16.2 hm (o := .tup [.str "refused", .str (repD U), .bl true])
              refine ⟨_, hdD "refused" U, Dp.mono s16.2 s17 d16, .tup (.inl (.inl upd_same)) (.cons (.str _) (.cons (.str _) (.cons (.bl _) .nil))), hd_sh (by decide +kernel) oU, hd_sh (by decide +kernel) oU, ?_⟩
              rw [hd_eqv]
              obtain ⟨b9, m9⟩ := hb13.mv m12.2 (mv.sm ap (s16.trans s17))
              exact k _ _ (m12.trans m9) b9
end
end K6

set_option Elab.async false
set_option linter.all false
set_option maxRecDepth 100000
set_option maxHeartbeats 4000000
namespace K6
open PySem PySem.Spec PyProof.Rows L2 So SoFr SoC
/-! ### what _law_heard hears, asked from within a comprehension -/
section
variable {X : Cx} {pins pins' : List (Addr × Obj)} {σ σb : L2.St} {G H H0 Hb : Hp} {s s0 sb : Shared} {N fr : List Str} {js : List Nat} {f Ca : Addr} {sp : Sp} {k : Nat} {t : XK → TE} {fp : List Addr} {P CS CR : Addr} {scope : Scope} {cl : List (Str × Addr)}
theorem LamAt.calB (I : Inv X pins σ H0 s0) (hfp : ∀ b ∈ fp, FpOk X pins H0 b) (h : LamAt X N js k t f G) (hsp : ∀ vs H Q E, sp vs H Q E → vs = [])
    (hbody : ∀ (H1 : Hp) (Q : VK) (E : XK), LamX.ExtN G H1 → sp [] H1 Q E → t E (NdefX.startF N [] (js.map (NdefX.slotAt σ))) H1 Q) :
    ∃ C : CF, Cal X.prog X.w X.K X.mg X.base (k + 1) C (fun a o => G a = some o ∧ ∀ ps, o ≠ .tbl ps) f sp ∧ cellsIn C s0 H0 ∧ ∀ c v, C c v → c ∉ fp := by
  obtain ⟨fr, pa, bo, sc, c, is, h1, h2⟩ := h
  have cp : NdefX.Caps X (cloFrom X.env.cells sc.names []) fr js := NdefX.Caps.made I.ok is.free is.sup is.at_
  refine ⟨cfAt (cloFrom X.env.cells sc.names []) s0, ?_, cf_in I cp, fun c v ⟨⟨y, e⟩, _⟩ m => ?_⟩
  · refine cal_lam (F := lamF X pa sc c) (ws := js.map (NdefX.slotAt σ)) is.S (fun pm ctv us hl => ?_) (fun vs H Q E q => by rw [hsp _ _ _ _ q]; rfl) ⟨h1, fun ps z => nomatch z⟩ ⟨h2, fun ps z => nomatch z⟩ (fun s' H' h => cf_cells I cp h) (fun A outer s1 H1 vs Q E hr _ ht q => ?_)
    · match us, hl with
      | [], _ => exact is.hb _ _ pm _ ctv
    · cases hsp _ _ _ _ q
      exact ⟨_, is.body c f A outer s1 H1 E hr, hbody H1 Q E (fun b o e n => ht b o ⟨e, n⟩) q⟩
  · obtain ⟨_, _, _, _, q, _⟩ := hfp c m
    exact q y c (cp.sub y c e) rfl
def preB (X : Cx) (P CS CR : Addr) (σ0 : L2.St) : L2.St → List V → Hp → VK → Prop := fun _ vs Hb Q => GxR.TabG Hb P ∧ ∃ (f : Addr) (o : Out) (D : PyData) (N : List Str) (js : List Nat) (t : XK → TE) (G : Hp), vs = [.ref f] ∧ LamAt X N js 7 t f G ∧ LamX.ExtN G Hb ∧ Heard CS CR o D ∧
  (∀ H1 Q' E, LamX.ExtN G H1 → spAsk X.K P o [] H1 Q' E → t E (NdefX.startF N [] (js.map (NdefX.slotAt σ0))) H1 Q') ∧ ∀ v H', Sm P Hb H' → Dp X.K H' v D → Q v H'
theorem preB_of {vs : List V} {Q : VK} {E : XK} (I0 : Inv X pins σ H0 s0) (hfp : ∀ b ∈ fp, FpOk X pins H0 b) (I : Inv (blkAt X scope s0 H0 Ca cl fp) pins' σb Hb sb) (h : preB X P CS CR σ σb vs Hb Q) : spHrd X.prog X.w X.K X.mg X.base P CS CR sb vs Hb Q E := by
  obtain ⟨tb, f, o, D, N, js, t, G, rfl, la, e, hh, hb, k⟩ := h
  obtain ⟨C, c1, c2, c3⟩ := la.calB I0 hfp (sp := spAsk X.K P o) (fun _ _ _ _ q => q.1) hb
  obtain ⟨_, _, _, _, _, _, l1, _⟩ := la.ext e
  exact ⟨tb, f, C, _, o, D, rfl, c1, c2.un I.base c3, fun a o q => e a o q.1 q.2, fnK_lm l1, hh, k⟩
theorem pe_askB {ta : TA} {e : Expr} {p pos : Pos} (Hrd : FxS X.prog X.w X.K X.mg X.base 9 "_law_heard" ["ask"] (spHrd X.prog X.w X.K X.mg X.base P CS CR)) (I0 : Inv X pins σ H0 s0) (hfp : ∀ b ∈ fp, FpOk X pins H0 b) (hgd : X.A.guards = some []) (hr : Room 9 X.A) (hg : Gl (blkAt X scope s0 H0 Ca cl fp) "_law_heard") (ha : PA (blkAt X scope s0 H0 Ca cl fp) [e] ta)
    (he : starEach (e :: []) (blkAt X scope s0 H0 Ca cl fp).env = (false, eval e (blkAt X scope s0 H0 Ca cl fp).env) :: starEach [] (blkAt X scope s0 H0 Ca cl fp).env := by rfl) (hpl : (backTo pos (starEach [] (blkAt X scope s0 H0 Ca cl fp).env)).any (·.1) = false := by rfl) :
    PE (blkAt X scope s0 H0 Ca cl fp) (.Call (.Name "_law_heard" p) [e] [] pos) (tCallF (preB X P CS CR σ) ta) :=
  pe_callF (X := blkAt X scope s0 H0 Ca cl fp) Hrd.ok hgd hr (Nat.le_refl _) hg Hrd.g Hrd.kp Hrd.b pass0 (fun _ _ _ _ _ _ I q => preB_of I0 hfp I q) ha (by decide) he hpl
theorem LamAt.del {q : Addr} {xs : List V} (h : LamAt X N js k t f G) (e : G q = some (.lst xs)) : LamAt X N js k t f (L2.del G q) := by
  obtain ⟨fr, pa, bo, sc, c, is, h1, h2⟩ := h
  refine ⟨fr, pa, bo, sc, c, is, ?_, ?_⟩
  · rw [del_ne fun z => ?_]
    · exact h1
    · rw [z, e] at h1
      exact nomatch Option.some.inj h1
  · rw [del_ne fun z => ?_]
    · exact h2
    · rw [z, e] at h2
      exact nomatch Option.some.inj h2
end
theorem ask_read {X : Cx} {σ : L2.St} {H : Hp} {N : List Str} {js : List Nat} {t : XK → TE} {P CS CR : Addr} {L : List (Addr × Str)} {Q : VK} (ap : Apart L P) (lv : Lv L P H) (o : Out) (D : PyData) (hh : Heard CS CR o D)
    (body : ∀ H1 Q' E, LamX.ExtN H H1 → spAsk X.K P o [] H1 Q' E → t E (NdefX.startF N [] (js.map (NdefX.slotAt σ))) H1 Q') (k : ∀ v H', Mv L P H H' → Dp X.K H' v D → Q v H') :
    tCallF (preL X P CS CR N js t) (tCons (tLamA L P X N js 7 t) tNil) σ H Q :=
  ⟨lv, fun f H1 mv _ _ la => ⟨mv.2.t, f, o, D, rfl, la, hh, fun H2 Q' E e sp => body H2 Q' E (fun b u eb n => e b u (mv.1 b u eb n) n) sp, fun v H' s d => k v H' (mv.sm ap s) d⟩⟩
/-! ### data that is drawn -/
theorem eqv_all {ds : List PyData} (h : ∀ d ∈ ds, d.eqv d = true) : PyData.eqvAll ds ds = true := by
  induction ds with
  | nil => simp [PyData.eqvAll]
  | cons d r ih =>
    simp only [PyData.eqvAll, Bool.and_eq_true]
    exact ⟨h d (List.mem_cons_self ..), ih fun x hx => h x (List.mem_cons_of_mem _ hx)⟩
theorem wd_eqv : (wd1 ++ wd2).all (fun d => (tupD d).eqv (tupD d)) = true := by decide +kernel
theorem wd_lb : (wd1 ++ wd2).all (fun d => match itD d with
  | [a, .str z] => !isS a "open" || lgB (.str z)
  | _ => true) = true := by decide +kernel
theorem row_len {D : PyData} (h : okRow D) : (itD D).length ≤ 8 := by
  rcases h with h | ⟨ds, e, l, _⟩
  · have := List.all_eq_true.mp wd3_ok D h
    rw [Bool.and_eq_true, Bool.not_eq_true'] at this
    cases D with
    | list _ => exact nomatch this.2
    | tuple _ => exact nomatch this.2
    | _ => exact Nat.zero_le _
  · rcases e with rfl | rfl <;> exact l
theorem row_mem {D : PyData} (h : okRow D) : ∀ d ∈ itD D, d ∈ wd1 ++ wd2 := by
  rcases h with h | ⟨ds, e, _, m⟩
  · have := List.all_eq_true.mp wd3_ok D h
    rw [Bool.and_eq_true, Bool.not_eq_true'] at this
    cases D with
    | list _ => exact nomatch this.2
    | tuple _ => exact nomatch this.2
    | _ => exact fun d hd => nomatch hd
  · rcases e with rfl | rfl <;> exact m
theorem okW_mem {d : PyData} (h : d ∈ wd1 ++ wd2) : fitD d = true ∧ d.canLay0 = true ∧ d.depth ≤ 20 ∧ agS d = true := by
  have := List.all_eq_true.mp wds_ok d h
  unfold okW at this
  simp only [Bool.and_eq_true, decide_eq_true_eq] at this
  exact this
theorem fitA_of {ds : List PyData} (h : ∀ d ∈ ds, fitD d = true) : fitA ds = true := by
  induction ds with
  | nil => rfl
  | cons d r ih =>
    simp only [fitA, h d (List.mem_cons_self ..), ih fun x hx => h x (List.mem_cons_of_mem _ hx), Bool.and_self]
theorem layA_of {ds : List PyData} (h : ∀ d ∈ ds, d.canLay0 = true) : PyData.canLayAll0 ds = true := by
  induction ds with
  | nil => rfl
  | cons d r ih =>
    simp only [PyData.canLayAll0, h d (List.mem_cons_self ..), ih fun x hx => h x (List.mem_cons_of_mem _ hx), Bool.and_self]
theorem depA_of {ds : List PyData} (h : ∀ d ∈ ds, d.depth ≤ 20) : PyData.depthAll ds ≤ 20 := by
  induction ds with
  | nil => exact Nat.zero_le _
  | cons d r ih =>
    simp only [PyData.depthAll]
    exact Nat.max_le.mpr ⟨h d (List.mem_cons_self ..), ih fun x hx => h x (List.mem_cons_of_mem _ hx)⟩
theorem okD_row {ds : List PyData} (l : ds.length ≤ 100000) (h : ∀ d ∈ ds, fitD d = true ∧ d.canLay0 = true ∧ d.depth ≤ 20) : OkD (.tuple ds) := by
  refine ⟨?_, ?_, ?_⟩
  · simp only [fitD, fitA_of fun d hd => (h d hd).1, Bool.and_true, decide_eq_true_eq]
    exact l
  · simp only [PyData.canLay0]
    exact layA_of fun d hd => (h d hd).2.1
  · simp only [PyData.depth]
    have := depA_of fun d hd => (h d hd).2.2
    omega
theorem row_ok {D : PyData} (h : okRow D) : OkD D ∧ (itD D).all agS = true := by
  have ag : (itD D).all agS = true := List.all_eq_true.mpr fun d hd => (okW_mem (row_mem h d hd)).2.2.2
  refine ⟨?_, ag⟩
  rcases h with h | ⟨ds, e, l, m⟩
  · have := List.all_eq_true.mp wd3_ok D h
    rw [Bool.and_eq_true] at this
    have q := this.1
    unfold okW at q
    simp only [Bool.and_eq_true, decide_eq_true_eq] at q
    exact ⟨q.1, q.2.1, by omega⟩
  · have o := okD_row (ds := ds) (by omega) fun d hd => ⟨(okW_mem (m d hd)).1, (okW_mem (m d hd)).2.1, (okW_mem (m d hd)).2.2.1⟩
    rcases e with rfl | rfl
    · exact okD_list o
    · exact o
theorem tups_tups {ds : List PyData} : (ds.map tupD).map tupD = ds.map tupD := by
  rw [List.map_map]
  refine List.map_congr_left fun d _ => ?_
  show tupD (tupD d) = tupD d
  cases d <;> rfl
theorem ag_tup {d : PyData} (h : agS d = true) : agS (tupD d) = true := by
  cases d <;> exact h
/-- a row that is a prefix, as it is told -/
theorem row_pl {D : PyData} {l : Int} (h : okRow D) (hr : rdD D 0 = .inr l) : PrL ((itD D).map tupD) := by
  obtain ⟨ok, ag⟩ := row_ok h
  obtain ⟨pr, _⟩ := rd_pr ok hr
  have len := row_len h
  have wm := row_mem h
  refine ⟨?_, tups_tups, ?_, ?_, by rw [List.length_map]; omega, ?_⟩
  · obtain ⟨l2, e2⟩ : ∃ l2, levD ((itD D).map tupD) 0 0 = .inr l2 := by
      have key : ∀ (es : List PyData) (i : Nat) (n : Int), levD (es.map tupD) i n = levD es i n := by
        intro es
        induction es with
        | nil => exact fun _ _ => rfl
        | cons d r ih =>
          intro i n
          rw [List.map_cons, lev_cons, lev_cons, tup_sgn, tup_stp, ih]
      rw [key]
      unfold rdD at hr
      cases hq : isSq D with
      | true =>
        rw [hq, if_pos rfl] at hr
        exact ⟨l, hr⟩
      | false =>
        rw [hq, if_neg Bool.false_ne_true] at hr
        exact nomatch hr
    exact ⟨l2, e2⟩
  · refine okD_row (by rw [List.length_map]; omega) fun d hd => ?_
    obtain ⟨e, he, rfl⟩ := List.mem_map.mp hd
    obtain ⟨a, b, c, _⟩ := okW_mem (wm e he)
    cases e with
    | list xs =>
      simp only [fitD] at a
      simp only [PyData.canLay0] at b
      simp only [PyData.depth] at c
      exact ⟨by simp only [tupD, fitD]; exact a, by simp only [tupD, PyData.canLay0]; exact b, by simp only [tupD, PyData.depth]; exact c⟩
    | _ => exact ⟨a, b, c⟩
  · refine List.all_eq_true.mpr fun d hd => ?_
    obtain ⟨e, he, rfl⟩ := List.mem_map.mp hd
    exact ag_tup (okW_mem (wm e he)).2.2.2
  · intro d hd a z ei op
    obtain ⟨e, he, rfl⟩ := List.mem_map.mp hd
    have := List.all_eq_true.mp wd_lb e (wm e he)
    have e2 : itD (tupD e) = itD e := by cases e <;> rfl
    rw [e2] at ei
    rw [ei] at this
    dsimp only at this
    rw [op] at this
    simpa using this
theorem row_eqv {D : PyData} (h : okRow D) : (tupsD D).eqv (tupsD D) = true := by
  unfold tupsD
  simp only [PyData.eqv]
  refine eqv_all fun d hd => ?_
  obtain ⟨e, he, rfl⟩ := List.mem_map.mp hd
  exact List.all_eq_true.mp wd_eqv e (row_mem h e he)
end K6

set_option Elab.async false
set_option linter.all false
set_option maxRecDepth 100000
set_option maxHeartbeats 4000000
namespace K6
open PySem PySem.Spec PyProof.Rows L2 So SoFr SoC
section
variable {Pg : Program} {w : World} {K : PySem.W.Frag} {mg : Str → Option Value} {base : Heap} {P CS CR : Addr} {L : List (Addr × Str)}
/-! ### _law_value_right -/
abbrev nVar : List Str := ["box", "value", "levels", "bad", "asks", "due", "many", "ask", "sign"]
theorem scVar : FnScope nVar ["box", "value"] (defScope sVar) := ⟨rfl, rfl, rfl, by decide +kernel, rfl, by decide +kernel, by decide +kernel⟩
def spVar (K : PySem.W.Frag) (P : Addr) (L : List (Addr × Str)) : Shared → Sp := fun _ vs H Q _ => ∃ (G : Hp) (b : Addr) (v : V) (D : PyData), vs = [.ref b, v] ∧ Lv L P G ∧ BxG G b H ∧ Dp K G v D ∧ okRow D ∧ ∀ G' H', Mv L P G G' → BxG G' b H' → Q (.bl true) H'
abbrev t1 (K : PySem.W.Frag) (P CS : Addr) : XK → TE := fun E => tCall (spCpf K P CS) [] E (tCons (tVar 0) tNil)
abbrev t2 (K : PySem.W.Frag) (P CS : Addr) : XK → TE := fun E => tCallK (spDep K P CS) g1 E tNil (tCons (tVar 0) tNil)
abbrev t3 (K : PySem.W.Frag) (P CS : Addr) : XK → TE := fun E => tCall (spDps K P CS) [] E (tCons (tVar 0) tNil)
abbrev t4 (K : PySem.W.Frag) (P CS : Addr) : XK → TE := fun E => tCall (spOpl K P CS) [] E (tCons (tVar 0) tNil)
abbrev t5 (K : PySem.W.Frag) (P CS CR : Addr) : XK → TE := fun E => tCall (spNbh K P CS CR) [] E (tCons (tVar 0) (tCons (tC .non) tNil))
abbrev t6 (K : PySem.W.Frag) (P CS CR : Addr) : XK → TE := fun E => tCall (spCen K P CS CR) [] E (tCons (tVar 0) (tCons (tVar 1) tNil))
abbrev t7 (K : PySem.W.Frag) (P CS CR : Addr) : XK → TE := fun E => tCallK (spCen K P CS CR) g2 E tNil (tCons (tVar 0) (tCons (tVar 1) tNil))
abbrev t8 (K : PySem.W.Frag) (P CS : Addr) : XK → TE := fun E => tCall (spCst K P CS) [] E (tCons (tVar 0) tNil)
def tUps (K : PySem.W.Frag) (P : Addr) : TE := fun σ H Q => ∃ (v : V) (D : PyData), σ.length = 9 ∧ σ[1]? = some (some v) ∧ Dp K H v D ∧ isSq D = true ∧ (∀ d ∈ itD D, isSq d = true) ∧ (itD D).length ≤ 1000 ∧ GxR.TabG H P ∧ ∀ v' H', Sm P H H' → Dp K H' v' (tupsD D) → Q v' H'
def prPrr (K : PySem.W.Frag) (P : Addr) (L : List (Addr × Str)) : L2.St → List V → Hp → VK → Prop := fun _ vs H Q => ∃ (G : Hp) (b : Addr) (v : V) (es : List PyData), vs = [.ref b, v] ∧ Lv L P G ∧ BxG G b H ∧ Dp K G v (.tuple es) ∧ PrL es ∧ ∀ G' H', Mv L P G G' → BxG G' b H' → Q (.bl true) H'
theorem pe_prr {X : Cx} {p pos : Pos} {e : Expr} {es : List Expr} {ta : TA} (Prr : FxS X.prog X.w X.K X.mg X.base 10 "_law_prefix_right" ["box", "line"] (spPrr X.K P L)) (hgd : X.A.guards = some []) (hr : Room 10 X.A) (hg : Gl X "_law_prefix_right") (ha : PA X (e :: es) ta)
    (he : starEach (e :: es) X.env = (false, eval e X.env) :: starEach es X.env := by rfl) (hpl : (backTo pos (starEach es X.env)).any (·.1) = false := by rfl) : PE X (.Call (.Name "_law_prefix_right" p) (e :: es) [] pos) (tCallF (prPrr X.K P L) ta) :=
  pe_callF Prr.ok hgd hr (Nat.le_refl _) hg Prr.g Prr.kp Prr.b pass0 (fun _ _ _ _ _ _ _ q => q) ha (by decide) he hpl
/-- one ask of the list, asked -/
abbrev tAskB (X : Cx) (K : PySem.W.Frag) (P CS CR : Addr) (σ0 : L2.St) : TT := tTest (tOp (rNeD K) (tCallF (preB X P CS CR σ0) (tCons (tVar 7) tNil)) (tTup (tCons (tC (.str "stream")) (tCons (tCB (rReprA K) (tCons (tVar 3) tNil)) (tCons (tC (.bl true)) tNil)))))
theorem tUps_of : ∀ (σ : L2.St) (H : Hp) (Q : VK), tUps K P σ H Q → tThen (tLc (iSq K (tVar 1)) (gName 8) tYes (tThen (tVar 8) (kTup K)) [8]) (kTup K) σ H Q := by
  rintro σ H Q ⟨v, D, hl, e1, hv, hq, hall, len, t, k⟩
  match σ, hl with
  | [a0, a1, a2, a3, a4, a5, a6, a7, a8], _ =>
    cases (show a1 = some v from Option.some.inj e1)
    obtain ⟨a, xs, rfl, hs, hi⟩ := dp_seq hv hq
    have lx := dpa_len hi
    have turn : ∀ (Dc : Addr) (i : Nat) (x : V) (H' : Hp), H Dc = none → Dc ≠ P → xs[i]? = some x → (∃ ys, Sm P H H' ∧ H' Dc = some (.lst ys) ∧ DpAll K (L2.del H' Dc) ys (((itD D).take i).map tupD)) →
        tThen (tVar 8) (kTup K) [a0, some (.ref a), a2, a3, a4, a5, a6, a7, some x] H' fun y H4 => ∃ acc, H4 Dc = some (.lst acc) ∧ acc.length < sizeLine ∧ ∃ ys, Sm P H (upd H4 Dc (.lst (acc ++ [y]))) ∧ upd H4 Dc (.lst (acc ++ [y])) Dc = some (.lst ys) ∧ DpAll K (L2.del (upd H4 Dc (.lst (acc ++ [y]))) Dc) ys (((itD D).take (i + 1)).map tupD) := by
      rintro Dc i x H' n0 nP hx ⟨ys, s1, hD, hys⟩
      obtain ⟨d, hdi, hxd⟩ := dpa_at hi hx
      have ilen := (List.getElem?_eq_some_iff.mp hdi).1
      have ly : ys.length < sizeLine := by
        rw [dpa_len hys, List.length_map, List.length_take]
        exact Nat.lt_of_le_of_lt (show min i (itD D).length ≤ 1000 by omega) (by decide)
      have put : ∀ (z : V) (H8 : Hp), Sm P H' H8 → Dp K (L2.del H8 Dc) z (tupD d) → ∃ acc, H8 Dc = some (.lst acc) ∧ acc.length < sizeLine ∧ ∃ ys, Sm P H (upd H8 Dc (.lst (acc ++ [z]))) ∧ upd H8 Dc (.lst (acc ++ [z])) Dc = some (.lst ys) ∧ DpAll K (L2.del (upd H8 Dc (.lst (acc ++ [z]))) Dc) ys (((itD D).take (i + 1)).map tupD) := by
        intro z H8 s9 hz
        refine ⟨ys, s9.atL s1.2 hD, ly, ys ++ [z], (s1.trans s9).mut n0 nP, upd_same, ?_⟩
        rw [del_upd, tup_app hdi]
        exact dpa_app (DpAll.mono (del_tab s1.2 nP) (s9.dels nP) hys) (.cons hz .nil)
      have hd8 := Dp.mono t (s1.del n0 nP) hxd
      have hs := hall d (List.mem_of_getElem? hdi)
      cases d with
      | list ds =>
        cases hxd with
        | @lst b zs _ c1 c2 =>
          refine ⟨_, rfl, .inl ⟨b, _, rfl, s1.lst t c1, fun q hq => ?_⟩⟩
          have nq : q ≠ Dc := fun z => by
            rw [z, hD] at hq
            cases hq
          exact put (.ref q) _ (Sm.new s1.2 hq) (.tup (.inl (.inl (by rw [del_ne nq, upd_same]))) (DpAll.mono t ((s1.trans (Sm.new s1.2 hq)).del n0 nP) c2))
      | tuple ds =>
        cases hxd with
        | @tup b zs _ c1 c2 => exact ⟨_, rfl, .inr ⟨b, _, rfl, s1.tup t c1, put (.ref b) _ (Sm.refl s1.2) hd8⟩⟩
      | none => exact nomatch hs
      | bool _ => exact nomatch hs
      | int _ => exact nomatch hs
      | str _ => exact nomatch hs
      | dict _ => exact nomatch hs
    have fin : ∀ (Dc : Addr) (H' : Hp), H Dc = none → (∃ ys, Sm P H H' ∧ H' Dc = some (.lst ys) ∧ DpAll K (L2.del H' Dc) ys (((itD D).take xs.length).map tupD)) → kTup K (.ref Dc) H' Q := by
      rintro Dc H' n0 ⟨ys, s1, hD, hys⟩
      rw [lx, List.take_length] at hys
      refine .inl ⟨Dc, ys, rfl, SqL.of hD, fun q hq => ?_⟩
      exact k _ _ (s1.trans (Sm.new s1.2 hq)) (.tup (.inl (.inl upd_same)) (DpAll.mono (del_tab s1.2 (nPt t n0)) ((Sm.undel s1.2).trans (Sm.new s1.2 hq)) hys))
    rcases hs with hs | hs
    · refine .inl ⟨_, rfl, a, rfl, ⟨xs, hs⟩, fun Dc hDc => ?_⟩
      have nP := nPt t hDc
      refine lc_tup (xs := xs) (fun i H' => ∃ ys, Sm P H H' ∧ H' Dc = some (.lst ys) ∧ DpAll K (L2.del H' Dc) ys (((itD D).take i).map tupD)) ⟨[], Sm.new t hDc, upd_same, .nil⟩ (fun i H' _ ⟨_, s, _⟩ => s.tup t hs) (fun i x H' hx iv => ⟨rfl, ?_⟩) (fun H' iv => fin Dc H' hDc iv)
      exact turn Dc i x H' hDc nP hx iv
    · refine .inr ⟨_, rfl, a, rfl, ⟨xs, hs⟩, fun Dc hDc => ?_⟩
      have nP := nPt t hDc
      refine lc_list (xs := xs) (fun i H' => ∃ ys, Sm P H H' ∧ H' Dc = some (.lst ys) ∧ DpAll K (L2.del H' Dc) ys (((itD D).take i).map tupD)) ⟨[], Sm.new t hDc, upd_same, .nil⟩ (fun i H' _ ⟨_, s, _⟩ => s.lst t hs) (fun i x H' hx iv => ⟨rfl, ?_⟩) (fun H' iv => fin Dc H' hDc iv)
      exact turn Dc i x H' hDc nP hx iv
theorem del_own_upd {H : Hp} {q : Addr} {o : HO} {u : HO} : upd (L2.del (upd H q o) q) q u = upd H q u := by
  funext c
  by_cases z : c = q
  · rw [z, upd_same, upd_same]
  · rw [upd_ne z, del_ne z, upd_ne z, upd_ne z]
def dueD (D : PyData) (n : Nat) : PyData := match whD D (n : Nat) with
  | none => .tuple [.str "told", tupsD D]
  | some i => hdD "stream" (.int i)
def tB2 (K : PySem.W.Frag) (P : Addr) : TS := fun D' σ H => ∃ (b v : V) (D : PyData) (n : Nat) (lv bd q : V) (du : Option V), σ = [some b, some v, some lv, some bd, some q, du, some (.int (n : Nat)), none, none] ∧ GxR.TabG H P ∧ Dp K H v D ∧ (itD D).length ≤ 1000 ∧
  (match rdD D (n : Nat) with
   | .inl i => bd = .int i
   | .inr l => bd = .non ∧ l = n + lvA (itD D) (itD D).length ∧ isSq D = true ∧ ∃ p, lv = .ref p ∧ H p = some (.lst ((List.range (itD D).length).map fun j => V.int ((n : Nat) + lvA (itD D) (j + 1))))) ∧
  ∀ H', Sm P H H' → D'.nx [some b, some v, some lv, some (oiV (whD D (n : Nat))), some q, du, some (.int (n : Nat)), none, none] H'
def tB3 (K : PySem.W.Frag) (P : Addr) : TS := fun D' σ H => ∃ (b v : V) (D : PyData) (n : Nat) (lv q : V) (du : Option V), σ = [some b, some v, some lv, some (oiV (whD D (n : Nat))), some q, du, some (.int (n : Nat)), none, none] ∧ GxR.TabG H P ∧ Dp K H v D ∧ OkD D ∧
  ∀ H', Sm P H H' → D'.nx σ H'
def tDue (K : PySem.W.Frag) (P : Addr) : TE := fun σ H Q => ∃ (b v : V) (D : PyData) (n : Nat) (lv q : V) (du : Option V), σ = [some b, some v, some lv, some (oiV (whD D (n : Nat))), some q, du, some (.int (n : Nat)), none, none] ∧ GxR.TabG H P ∧ Dp K H v D ∧ okRow D ∧
  ∀ y H', Sm P H H' → Dp K H' y (dueD D n) → Q y H'
def tB5 (K : PySem.W.Frag) (P : Addr) (L : List (Addr × Str)) : TS := fun D' σ H => ∃ (b v : V) (D : PyData) (n : Nat) (lv q du : V), σ = [some b, some v, some lv, some (oiV (whD D (n : Nat))), some q, some du, some (.int (n : Nat)), none, none] ∧ Lv L P H ∧ Dp K H v D ∧ okRow D ∧ Dp K H du (dueD D n) ∧
  ∀ H', Mv L P H H' → D'.nx σ H'
theorem lev_bd : ∀ {es : List PyData} {i : Nat} {l m : Int}, levD es i l = .inl m → ∃ j : Nat, m = (j : Nat) ∧ j < i + es.length
  | [], _, _, _, h => nomatch h
  | d :: r, i, l, m, h => by
    rw [lev_cons] at h
    split at h
    · cases h
      exact ⟨i, rfl, by rw [List.length_cons]; omega⟩
    · split at h
      · cases h
        exact ⟨i, rfl, by rw [List.length_cons]; omega⟩
      · obtain ⟨j, e, q⟩ := lev_bd h
        exact ⟨j, e, by rw [List.length_cons]; omega⟩
theorem rd_fl {D : PyData} {n i : Int} (h : okRow D) (e : rdD D n = .inl i) : flB (.int i) = true := by
  have len := row_len h
  unfold rdD at e
  split at e
  · obtain ⟨j, rfl, hj⟩ := lev_bd e
    exact List.all_eq_true.mp fl_ints _ (List.mem_range.mpr (by omega))
  · cases e
    exact List.all_eq_true.mp fl_else _ (by simp)
theorem wh_fl {D : PyData} {n i : Int} (h : okRow D) (e : whD D n = some i) : flB (.int i) = true := by
  have len := row_len h
  unfold whD at e
  cases r : rdD D n with
  | inl j =>
    rw [r] at e
    cases e
    exact rd_fl h r
  | inr l =>
    rw [r] at e
    dsimp only at e
    split at e
    · cases e
      exact List.all_eq_true.mp fl_ints _ (List.mem_range.mpr (by omega))
    · exact nomatch e
theorem rd_sq {D : PyData} {n l : Int} (n0 : 0 ≤ n) (e : rdD D n = .inr l) : isSq D = true ∧ (∀ d ∈ itD D, isSq d = true) ∧ l = n + lvA (itD D) (itD D).length := by
  unfold rdD at e
  split at e
  · rename_i hq
    obtain ⟨a, _, c⟩ := lev_pr e n0
    exact ⟨hq, fun d hd => (sgn_cons (a d hd)).1, c⟩
  · exact nomatch e
theorem wh_sq {D : PyData} {n : Nat} (e : whD D (n : Nat) = none) : isSq D = true ∧ ∀ d ∈ itD D, isSq d = true := by
  unfold whD at e
  cases r : rdD D (n : Nat) with
  | inl j =>
    rw [r] at e
    exact nomatch e
  | inr l =>
    obtain ⟨a, b, _⟩ := rd_sq (by omega) r
    exact ⟨a, b⟩
theorem due_eqv {D : PyData} (h : okRow D) (n : Nat) : (dueD D n).eqv (dueD D n) = true := by
  unfold dueD
  split
  · simp [PyData.eqv, PyData.eqvAll, row_eqv h]
  · exact hd_eqv _ _
theorem tups_okD {D : PyData} (h : okRow D) : OkD (tupsD D) := by
  refine okD_row (by rw [List.length_map]; have := row_len h; omega) fun d hd => ?_
  obtain ⟨e, he, rfl⟩ := List.mem_map.mp hd
  obtain ⟨a, b, c, _⟩ := okW_mem (row_mem h e he)
  cases e with
  | list xs =>
    simp only [fitD] at a
    simp only [PyData.canLay0] at b
    simp only [PyData.depth] at c
    exact ⟨by simp only [tupD, fitD]; exact a, by simp only [tupD, PyData.canLay0]; exact b, by simp only [tupD, PyData.depth]; exact c⟩
  | _ => exact ⟨a, b, c⟩
theorem due_sh {D : PyData} (h : okRow D) (n : Nat) : SeqAt.shaped (dueD D n) = true := by
  unfold dueD
  split
  · have o := tups_okD h
    have e1 := o.lay
    have e2 := o.dep
    unfold SeqAt.shaped
    have h1 : (PyData.tuple [.str "told", tupsD D]).canLay0 = true := by
      simp only [PyData.canLay0, PyData.canLayAll0, e1, Bool.and_true]
      decide +kernel
    have h2 : (PyData.tuple [.str "told", tupsD D]).depth ≤ 60 := by
      simp only [PyData.depth, PyData.depthAll]
      omega
    rw [h1, decide_eq_true (Nat.le_trans h2 (by decide))]
    rfl
  · rename_i i e
    exact hd_sh (by decide +kernel) (fl_rep (wh_fl h e)).2
def outD (CS : Addr) (D : PyData) (n : Nat) : Out := match whD D (n : Nat) with
  | none => .told (tupsD D)
  | some i => .err CS (.int i)
theorem out_heard {D : PyData} (h : okRow D) (n : Nat) : Heard CS CR (outD CS D n) (dueD D n) := by
  unfold outD dueD
  cases e : whD D (n : Nat) with
  | none => exact .told _
  | some i => exact .stream _ (fl_rep (wh_fl h e)).1
theorem out_wish {D : PyData} {n : Nat} {H1 : Hp} {Q' : VK} {E : XK} (sp : spAsk K P (outD CS D n) [] H1 Q' E) : wish (K := K) P CS H1 E D Q' (whD D (n : Nat)) := by
  unfold outD at sp
  cases e : whD D (n : Nat) with
  | none =>
    rw [e] at sp
    exact sp.2.2
  | some i =>
    rw [e] at sp
    exact fun d H' s x => sp.2.2 d _ H' s x (.int i)
theorem last_lv (es : List PyData) (n : Int) (m : Nat) : atI ([V.int n] ++ (List.range m).map fun j => V.int (n + lvA es (j + 1))) (-1) = some (V.int (n + lvA es m)) := by
  cases m with
  | zero =>
    rw [lvA_zero, Int.add_zero]
    exact atI_last [] (V.int n)
  | succ m =>
    rw [List.range_succ, List.map_append, ← List.append_assoc]
    exact atI_last _ _
theorem oi_none (o : Option Int) : decide (oiV o = V.non) = o.isNone := by
  cases o <;> rfl
theorem app_ask {X : Cx} {i : Nat} {σ : L2.St} {G : Hp} {q : Addr} {xs : List V} {N : List Str} {js : List Nat} {t : XK → TE} {Q : VK} (ap : Apart L P) (lv : Lv L P G) (n : G q = none) (hs : σ[i]? = some (some (.ref q))) (hx : xs.length < 100)
    (k : ∀ f G', Mv L P G G' → G' q = none → LamAt X N js 7 t f G' → Q .non (upd G' q (.lst (xs ++ [.ref f])))) : tBM K "list" rAppend (tVar i) (tCons (tLamA L P X N js 7 t) tNil) σ (upd G q (.lst xs)) Q := by
  refine ⟨_, hs, .inl ⟨rfl, _, .inl (.inl upd_same)⟩, own_lv ap lv n, fun f H' mv _ _ la => ?_⟩
  have e := mv.1 q _ upd_same fun _ z => nomatch z
  obtain ⟨e1, e2, e3⟩ := mv_beside n lv mv
  refine ⟨q, xs, _, rfl, rfl, e, Nat.lt_of_lt_of_le hx (by decide), ?_⟩
  have := k f (L2.del H' q) e3 e2 (la.del e)
  rw [← del_upd (o := .lst (xs ++ [.ref f])), del_own_upd] at this
  exact this
def flat : PyData → Bool
  | .list _ => false
  | .tuple _ => false
  | .dict _ => false
  | _ => true
theorem wd_flat : (wd1 ++ wd2).all (fun d => (itD d).all flat) = true := by decide +kernel
theorem flat_dp {H H' : Hp} {v : V} {d : PyData} (f : flat d = true) (h : Dp K H v d) : Dp K H' v d := by
  cases h with
  | non => exact .non
  | bl b => exact .bl b
  | int i => exact .int i
  | str z => exact .str z
  | lst _ _ => exact nomatch f
  | tup _ _ => exact nomatch f
theorem flats_dp {H H' : Hp} : ∀ {ds : List PyData} {xs : List V}, ds.all flat = true → DpAll K H xs ds → DpAll K H' xs ds
  | [], _, _, h => by cases h; exact .nil
  | d :: r, _, f, h => by
    rw [List.all_cons, Bool.and_eq_true] at f
    cases h with
    | cons a b => exact .cons (flat_dp f.1 a) (flats_dp f.2 b)
theorem sqt_del {H : Hp} {a b : Addr} {xs ys : List V} (e : H b = some (.lst ys)) (h : SqT K H a xs) : SqT K (L2.del H b) a xs := by
  rcases h with h | h
  · rcases h with h | ⟨o, h⟩
    · exact .inl (.inl (by rw [del_ne fun z => by rw [z, e] at h; cases h]; exact h))
    · exact .inl (.inr ⟨o, by rw [del_ne fun z => by rw [z, e] at h; cases h]; exact h⟩)
  · exact .inr h
theorem tts_dp {H : Hp} {b : Addr} {ys : List V} (e : H b = some (.lst ys)) : ∀ {ds : List PyData} {xs : List V}, (∀ d ∈ ds, isSq d = true ∧ (itD d).all flat = true) → DpAll K H xs (ds.map tupD) → DpAll K (L2.del H b) xs (ds.map tupD)
  | [], _, _, h => by cases h; exact .nil
  | d :: r, _, f, h => by
    obtain ⟨f1, f2⟩ := f d (List.mem_cons_self ..)
    rw [List.map_cons] at h ⊢
    cases h with
    | cons x y =>
      refine .cons ?_ (tts_dp e (fun z hz => f z (List.mem_cons_of_mem _ hz)) y)
      have key : ∀ {ds : List PyData} {v : V}, ds.all flat = true → Dp K H v (.tuple ds) → Dp K (L2.del H b) v (.tuple ds) := by
        intro ds v g z
        cases z with
        | tup a c => exact .tup (sqt_del e a) (flats_dp g c)
      cases d with
      | list ds => exact key f2 x
      | tuple ds => exact key f2 x
      | none => exact nomatch f1
      | bool _ => exact nomatch f1
      | int _ => exact nomatch f1
      | str _ => exact nomatch f1
      | dict _ => exact nomatch f1
theorem row_del {D : PyData} {H : Hp} {b : Addr} {ys : List V} {v : V} (e : H b = some (.lst ys)) (row : okRow D) (sq : ∀ d ∈ itD D, isSq d = true) (h : Dp K H v (tupsD D)) : Dp K (L2.del H b) v (tupsD D) := by
  unfold tupsD at h ⊢
  cases h with
  | tup a c => exact .tup (sqt_del e a) (tts_dp e (fun d hd => ⟨sq d hd, List.all_eq_true.mp wd_flat d (row_mem row d hd)⟩) c)
end
end K6

set_option Elab.async false
set_option linter.all false
set_option maxRecDepth 100000
set_option maxHeartbeats 4000000
namespace K6
open PySem PySem.Spec PyProof.Rows L2 So SoFr SoC
section
variable {Pg : Program} {w : World} {K : PySem.W.Frag} {mg : Str → Option Value} {base : Heap} {P CS CR : Addr} {L : List (Addr × Str)}
def tS7 (X : Cx) (K : PySem.W.Frag) (P CS : Addr) (L : List (Addr × Str)) : TS := fun D' σ H => ∃ (G : Hp) (b q : Addr) (v lv bd : V) (D : PyData) (fs : List V), σ = [some (.ref b), some v, some lv, some bd, some (.ref q), none, none, none, none] ∧ Lv L P G ∧ BxG G b H ∧ Dp K G v D ∧ okRow D ∧ G q = some (.lst fs) ∧
  (match rdD D 0 with
   | .inl i => bd = .int i
   | .inr _ => bd = .non) ∧
  (∀ i, rdD D 0 = .inl i → ∀ x ∈ fs, ∃ (f : Addr) (N : List Str) (js : List Nat) (t : XK → TE), x = .ref f ∧ LamAt X N js 7 t f G ∧ ∀ H1 Q' E, LamX.ExtN G H1 → spAsk K P (.err CS (.int i)) [] H1 Q' E → t E (NdefX.startF N [] (js.map (NdefX.slotAt σ))) H1 Q') ∧
  ∀ G' H', Mv L P G G' → BxG G' b H' → D'.nx σ H'
theorem ok_var {f c Pl : Addr} {fd : FuncData} (F : DfC K mg "_law_value_right" sVar ["box", "value"] f fd c) (T : Ty K mg) (TB : LamX.TabB base mg c Pl) (ap : Apart L P) (hP : Pl ≠ P) (hm : (Pl, ("_law_value_right" : Str) ++ ".<locals>." ++ "<lambda>") ∈ L) (hu2 : ∀ p ∈ L, p.1 = Pl → p.2 = ("_law_value_right" : Str) ++ ".<locals>." ++ "<lambda>")
    (Cpf : Fx1 Pg w K mg base (L2.CX Pg w) 5 "check_prefix" "value" (spCpf K P CS)) (Dep : Fx1 Pg w K mg base (L2.CX Pg w) 5 "depth" "prefix" (spDep K P CS)) (Dps : Fx1 Pg w K mg base (L2.CX Pg w) 6 "depths" "prefix" (spDps K P CS)) (Opl : Fx1 Pg w K mg base (L2.CX Pg w) 6 "open_labels" "prefix" (spOpl K P CS)) (Nbh : Fx2 Pg w K mg base (L2.CX Pg w) 6 "node_behind" "prefix" "at" (spNbh K P CS CR))
    (Cen : Fx2 Pg w K mg base (L2.CX Pg w) 6 "check_ending" "depth" "value" (spCen K P CS CR)) (Ien : Fx2 Pg w K mg base (L2.CX Pg w) 7 "is_ending" "depth" "value" (spIen K P CR)) (Cst : Fx1 Pg w K mg base (L2.CX Pg w) 6 "check_stream" "value" (spCst K P CS)) (Ist : Fx1 Pg w K mg base CX0 7 "is_stream" "value" (spIst K P))
    (Led : Fx Pg w K mg base CX0 1 "_law_led" ["value", "many"] (spLed K P)) (Tak : Fx Pg w K mg base CX0 1 "_law_take" ["box", "many"] spTakG) (Hrd : FxS Pg w K mg base 9 "_law_heard" ["ask"] (spHrd Pg w K mg base P CS CR)) (Prr : FxS Pg w K mg base 10 "_law_prefix_right" ["box", "line"] (spPrr K P L)) :
    FnS Pg w K mg base CX0 11 f fd ["box", "value"] (spVar K P L) := by
  refine okC F scVar (fun s vs H Q E h => ?_) (fun A outer s H vs Q E hr hgd h => ?_)
  · obtain ⟨_, _, _, _, rfl, _⟩ := h
    rfl
  · obtain ⟨G, b, v, D, rfl, lv, hb, hv, hrow, k⟩ := h
    have hu := hr.units
    have r1 : Room 1 _ := hr.mono (by decide)
    have r5 : Room 5 _ := hr.mono (by decide)
    have r6 : Room 6 _ := hr.mono (by decide)
    have r7 : Room 7 _ := hr.mono (by decide)
    have r9 : Room 9 _ := hr.mono (by decide)
    refine ⟨_, pss_cons (ps_asg (pe_call Led.ok r1 (by rfl) Led.g Led.kp Led.b .nil pass0 (pa_cons (pv 1) (pa_cons pe_int pa_nil))) (pg_tup rfl (pgs_cons (pg_name (i := 2) scVar.nd rfl (.inl rfl)) (pgs_cons (pg_name (i := 3) scVar.nd rfl (.inr rfl)) pgs_nil))))
      (pss_cons (ps_set (i := 4) scVar.nd rfl (.inl rfl) (pe_lst (pa_cons (pe_lamA (L := L) (P := P) (N := ["value"]) (fr := ["value"]) (js := [1]) (k := 7) (t := t1 K P CS) TB rfl (by exact hm) (by exact hu2) hP rfl
          ⟨⟨rfl, rfl, rfl, by decide +kernel, rfl, by decide +kernel, by decide +kernel, by decide +kernel, by decide +kernel⟩, free_by (sc := defScope sVar) (by decide +kernel), by decide +kernel, rfl, fun _ _ pm _ ctv => rfl,
            fun c f A outer s1 H1 E hr => pe_call Cpf.ok (hr.mono (by decide)) (by rfl) Cpf.g Cpf.kp Cpf.b .nil (passN (takes_of rfl rfl rfl rfl) fun _ _ _ _ h => h) (pa_cons (pv 0) pa_nil)⟩) pa_nil)))
      (pss_cons (ps_expr (pe_bm PySem.F.plainAttrs_list PySem.F.slot_list_append PySem.F.type_list_append mt_append (pv 4) (pa_cons (pe_lamA (L := L) (P := P) (N := ["value"]) (fr := ["value"]) (js := [1]) (k := 7) (t := t2 K P CS) TB rfl (by exact hm) (by exact hu2) hP rfl
          ⟨⟨rfl, rfl, rfl, by decide +kernel, rfl, by decide +kernel, by decide +kernel, by decide +kernel, by decide +kernel⟩, free_by (sc := defScope sVar) (by decide +kernel), by decide +kernel, rfl, fun _ _ pm _ ctv => rfl,
            fun c f A outer s1 H1 E hr => pe_callK0 Dep.ok (hr.mono (by decide)) (by rfl) Dep.g Dep.kp Dep.kb (passN (takes_of rfl rfl rfl rfl) fun _ _ _ _ h => h) (pk_cons (pv 0) pk_nil)⟩) pa_nil)))
      (pss_cons (ps_expr (pe_bm PySem.F.plainAttrs_list PySem.F.slot_list_append PySem.F.type_list_append mt_append (pv 4) (pa_cons (pe_lamA (L := L) (P := P) (N := ["value"]) (fr := ["value"]) (js := [1]) (k := 7) (t := t3 K P CS) TB rfl (by exact hm) (by exact hu2) hP rfl
          ⟨⟨rfl, rfl, rfl, by decide +kernel, rfl, by decide +kernel, by decide +kernel, by decide +kernel, by decide +kernel⟩, free_by (sc := defScope sVar) (by decide +kernel), by decide +kernel, rfl, fun _ _ pm _ ctv => rfl,
            fun c f A outer s1 H1 E hr => pe_call Dps.ok (hr.mono (by decide)) (by rfl) Dps.g Dps.kp Dps.b .nil (passN (takes_of rfl rfl rfl rfl) fun _ _ _ _ h => h) (pa_cons (pv 0) pa_nil)⟩) pa_nil)))
      (pss_cons (ps_expr (pe_bm PySem.F.plainAttrs_list PySem.F.slot_list_append PySem.F.type_list_append mt_append (pv 4) (pa_cons (pe_lamA (L := L) (P := P) (N := ["value"]) (fr := ["value"]) (js := [1]) (k := 7) (t := t4 K P CS) TB rfl (by exact hm) (by exact hu2) hP rfl
          ⟨⟨rfl, rfl, rfl, by decide +kernel, rfl, by decide +kernel, by decide +kernel, by decide +kernel, by decide +kernel⟩, free_by (sc := defScope sVar) (by decide +kernel), by decide +kernel, rfl, fun _ _ pm _ ctv => rfl,
            fun c f A outer s1 H1 E hr => pe_call Opl.ok (hr.mono (by decide)) (by rfl) Opl.g Opl.kp Opl.b .nil (passN (takes_of rfl rfl rfl rfl) fun _ _ _ _ h => h) (pa_cons (pv 0) pa_nil)⟩) pa_nil)))
      (pss_cons (ps_expr (pe_bm PySem.F.plainAttrs_list PySem.F.slot_list_append PySem.F.type_list_append mt_append (pv 4) (pa_cons (pe_lamA (L := L) (P := P) (N := ["value"]) (fr := ["value"]) (js := [1]) (k := 7) (t := t5 K P CS CR) TB rfl (by exact hm) (by exact hu2) hP rfl
          ⟨⟨rfl, rfl, rfl, by decide +kernel, rfl, by decide +kernel, by decide +kernel, by decide +kernel, by decide +kernel⟩, free_by (sc := defScope sVar) (by decide +kernel), by decide +kernel, rfl, fun _ _ pm _ ctv => rfl,
            fun c f A outer s1 H1 E hr => pe_call Nbh.ok (hr.mono (by decide)) (by rfl) Nbh.g Nbh.kp Nbh.b .nil (passN (takes_of rfl rfl rfl rfl) fun _ _ _ _ h => h) (pa_cons (pv 0) (pa_cons pe_non pa_nil))⟩) pa_nil)))
      (pss_cons (ps_weak (t' := tS7 (cxOf CX0 Pg w K mg base nVar "_law_value_right" (defScope sVar) f (.ref c) A outer s H E) K P CS L) (ps_if (pt_cmpR op_notN (pv 3) pe_non (nomark _))
        (pss_one (ps_if (pt_cmpR (op_neD hu) (pe_lcF (own := [("ask", 7)]) (g := gName 7) (tt := tAskB (cxOf CX0 Pg w K mg base nVar "_law_value_right" (defScope sVar) f (.ref c) A outer s H E) K P CS CR) (te := fun _ => tVar 7) rfl scVar.nd (pi_list (pv 4)) (blkOk_by (N := nVar) (sc := defScope sVar) (by decide +kernel)) (fun _ _ _ _ _ => pg_name (i := 7) scVar.nd rfl (Or.inl rfl))
            (fun pins σ s0 H0 Ca cl fp I0 hfp => pts_one (show PT _ _ (tAskB (cxOf CX0 Pg w K mg base nVar "_law_value_right" (defScope sVar) f (.ref c) A outer s H E) K P CS CR σ) from pt_cmpR (op_neD hu) (pe_askB Hrd I0 hfp hgd r9 (by rfl) (pa_cons (pv 7) pa_nil)) (pe_tup (pa_cons pe_str (pa_cons (pe_callB (call_reprA hgd hu) (by rfl) T.repr (by decide +kernel) (pa_cons (pv 3) pa_nil)) (pa_cons pe_bl pa_nil)))) (nomark _)))
            (fun _ _ _ _ _ _ _ _ _ => pv 7)) (pe_lst pa_nil) (nomark _)) (pss_one (ps_ret pe_bl)) pss_nil))
        (pss_one (ps_if (PW.pt (pw_or (pt_cmpR (op_neD hu) (pe_callK0 Cpf.ok r5 (by rfl) Cpf.g Cpf.kp Cpf.kb passF (pk_cons (pv 1) pk_nil))
              (pe_weak (t' := tUps K P) (pe_tupleOf (by rfl) T.T.tuple (pe_lc (own := [("sign", 8)]) (g := gName 8) (tt := tYes) rfl scVar.nd (pi_sq (pv 1)) (blkOk_by (N := nVar) (sc := defScope sVar) (by decide +kernel)) (fun _ _ _ _ _ => pg_name (i := 8) scVar.nd rfl (Or.inl rfl)) (fun _ _ _ _ _ => pts_nil) (te := tThen (tVar 8) (kTup K)) (fun _ _ _ _ _ => show PE _ _ (tThen (tVar 8) (kTup K)) from pe_tupleOf (by rfl) T.T.tuple (pv 8)))) tUps_of) (nomark _))
            (pw_or1 (pt_not (pt_val (pe_prr (L := L) (P := P) Prr hgd hr (by rfl) (pa_cons (pv 0) (pa_cons (pe_call Cpf.ok r5 (by rfl) Cpf.g Cpf.kp Cpf.b .nil passF (pa_cons (pv 1) pa_nil)) pa_nil))))))))
          (pss_one (ps_ret pe_bl)) pss_nil))) ?_)
      (pss_cons (ps_for (passes_of rfl) rfl (pi_tup (pe_tup (pa_cons pe_int (pa_cons pe_int (pa_cons pe_int (pa_cons (pe_call Tak.ok r1 (by rfl) Tak.g Tak.kp Tak.b .nil pass0 (pa_cons (pv 0) (pa_cons pe_int pa_nil))) pa_nil)))))) (pg_name (i := 6) scVar.nd rfl (Or.inr rfl))
        (pss_cons (ps_asg (pe_call Led.ok r1 (by rfl) Led.g Led.kp Led.b .nil pass0 (pa_cons (pv 1) (pa_cons (pv 6) pa_nil))) (pg_tup rfl (pgs_cons (pg_name (i := 2) scVar.nd rfl (.inl rfl)) (pgs_cons (pg_name (i := 3) scVar.nd rfl (.inr rfl)) pgs_nil))))
        (pss_cons (ps_weak (t' := tB2 K P) (ps_if (PW.pt (pw_and (pt_cmpR op_isN (pv 3) pe_non (nomark _)) (pw_and1 (pt_cmpR op_gt (pe_ix ix_list (pe_op op_cat (pe_lst (pa_cons (pv 6) pa_nil)) (pv 2)) (pe_un un_neg pe_int) (fun _ _ => rfl)) pe_int (nomark _))))) (pss_one (ps_set (i := 3) scVar.nd rfl (Or.inr rfl) (pe_callB call_len_seq (by rfl) T.T.len (by decide +kernel) (pa_cons (pv 1) pa_nil)))) pss_nil) ?_)
        (pss_cons (ps_weak (t' := tB3 K P) (ps_if (pt_cmpR op_ne (pe_callB (call_reprA hgd hu) (by rfl) T.repr (by decide +kernel) (pa_cons (pe_lst (pa_cons (pe_call Ien.ok r7 (by rfl) Ien.g Ien.kp Ien.b .nil passF (pa_cons (pv 6) (pa_cons (pv 1) pa_nil))) (pa_cons (pe_callK0 Ien.ok r7 (by rfl) Ien.g Ien.kp Ien.kb passF (pk_cons (pv 1) (pk_cons (pv 6) pk_nil))) pa_nil))) pa_nil)) (pe_callB (call_reprA hgd hu) (by rfl) T.repr (by decide +kernel) (pa_cons (pe_op op_rep (pe_lst (pa_cons (pe_cmpR op_isN (pv 3) pe_non (nomark _)) pa_nil)) pe_int) pa_nil)) (nomark _)) (pss_one (ps_ret pe_bl)) pss_nil) ?_)
        (pss_cons (ps_set (i := 5) scVar.nd rfl (Or.inl rfl) (pe_weak (t' := tDue K P) (pe_ifExp (pt_cmpR op_isN (pv 3) pe_non (nomark _)) (pe_tup (pa_cons pe_str (pa_cons (pe_weak (t' := tUps K P) (pe_tupleOf (by rfl) T.T.tuple (pe_lc (own := [("sign", 8)]) (g := gName 8) (tt := tYes) rfl scVar.nd (pi_sq (pv 1)) (blkOk_by (N := nVar) (sc := defScope sVar) (by decide +kernel)) (fun _ _ _ _ _ => pg_name (i := 8) scVar.nd rfl (Or.inl rfl)) (fun _ _ _ _ _ => pts_nil) (te := tThen (tVar 8) (kTup K)) (fun _ _ _ _ _ => show PE _ _ (tThen (tVar 8) (kTup K)) from pe_tupleOf (by rfl) T.T.tuple (pv 8)))) tUps_of) pa_nil))) (pe_tup (pa_cons pe_str (pa_cons (pe_callB (call_reprA hgd hu) (by rfl) T.repr (by decide +kernel) (pa_cons (pv 3) pa_nil)) (pa_cons pe_bl pa_nil))))) ?_))
        (pss_cons (ps_weak (t' := tB5 K P L) (ps_if (pt_cmpR (op_neD hu) (pe_askL (N := ["many", "value"]) (js := [6, 1]) (t := t6 K P CS CR) Hrd hgd r9 (by rfl) (pa_cons (pe_lamA (L := L) (P := P) (N := ["many", "value"]) (fr := ["many", "value"]) (js := [6, 1]) (k := 7) (t := t6 K P CS CR) TB rfl (by exact hm) (by exact hu2) hP rfl
          ⟨⟨rfl, rfl, rfl, by decide +kernel, rfl, by decide +kernel, by decide +kernel, by decide +kernel, by decide +kernel⟩, free_by (sc := defScope sVar) (by decide +kernel), by decide +kernel, rfl, fun _ _ pm _ ctv => rfl,
            fun c f A outer s1 H1 E hr => pe_call Cen.ok (hr.mono (by decide)) (by rfl) Cen.g Cen.kp Cen.b .nil (passN (takes_of rfl rfl rfl rfl) fun _ _ _ _ h => h) (pa_cons (pv 0) (pa_cons (pv 1) pa_nil))⟩) pa_nil)) (pv 5) (nomark _)) (pss_one (ps_ret pe_bl)) pss_nil) ?_)
        (pss_cons (ps_weak (t' := tB5 K P L) (ps_if (pt_cmpR (op_neD hu) (pe_askL (N := ["value", "many"]) (js := [1, 6]) (t := t7 K P CS CR) Hrd hgd r9 (by rfl) (pa_cons (pe_lamA (L := L) (P := P) (N := ["value", "many"]) (fr := ["value", "many"]) (js := [1, 6]) (k := 7) (t := t7 K P CS CR) TB rfl (by exact hm) (by exact hu2) hP rfl
          ⟨⟨rfl, rfl, rfl, by decide +kernel, rfl, by decide +kernel, by decide +kernel, by decide +kernel, by decide +kernel⟩, free_by (sc := defScope sVar) (by decide +kernel), by decide +kernel, rfl, fun _ _ pm _ ctv => rfl,
            fun c f A outer s1 H1 E hr => pe_callK0 Cen.ok (hr.mono (by decide)) (by rfl) Cen.g Cen.kp Cen.kb (passN (takes_of rfl rfl rfl rfl) fun _ _ _ _ h => h) (pk_cons (pv 0) (pk_cons (pv 1) pk_nil))⟩) pa_nil)) (pv 5) (nomark _)) (pss_one (ps_ret pe_bl)) pss_nil) ?_)
        (pss_one (ps_weak (t' := tB5 K P L) (ps_if (PW.pt (pw_and (pt_cmpR op_eq (pv 6) pe_int (nomark _)) (pw_and1 (PW.pt (pw_or (pt_cmpR (op_neD hu) (pe_askL (N := ["value"]) (js := [1]) (t := t8 K P CS) Hrd hgd r9 (by rfl) (pa_cons (pe_lamA (L := L) (P := P) (N := ["value"]) (fr := ["value"]) (js := [1]) (k := 7) (t := t8 K P CS) TB rfl (by exact hm) (by exact hu2) hP rfl
          ⟨⟨rfl, rfl, rfl, by decide +kernel, rfl, by decide +kernel, by decide +kernel, by decide +kernel, by decide +kernel⟩, free_by (sc := defScope sVar) (by decide +kernel), by decide +kernel, rfl, fun _ _ pm _ ctv => rfl,
            fun c f A outer s1 H1 E hr => pe_call Cst.ok (hr.mono (by decide)) (by rfl) Cst.g Cst.kp Cst.b .nil (passN (takes_of rfl rfl rfl rfl) fun _ _ _ _ h => h) (pa_cons (pv 0) pa_nil)⟩) pa_nil)) (pv 5) (nomark _)) (pw_or1 (pt_cmpR op_ne (pe_callK0 Ist.ok r7 (by rfl) Ist.g Ist.kp Ist.kb pass0 (pk_cons (pv 1) pk_nil)) (pe_cmpR op_isN (pv 3) pe_non (nomark _)) (nomark _)))))))) (pss_one (ps_ret pe_bl)) pss_nil) ?_)))))))))
      (pss_one (ps_ret pe_bl))))))))), ?_⟩
    · rintro D' σ H ⟨G, b, q, v, lv, bd, D, fs, rfl, lvG, hb, hv, row, hq, hbd, hfs, k⟩
      obtain ⟨ok, _⟩ := row_ok row
      have lvH := hb.lv ap lvG
      have tH := lvH.t
      have hvH : Dp K H v D := Dp.xt hb.sub hv
      have hqH := hb.sub q _ hq
      have l8 := row_len row
      cases r : rdD D 0 with
      | inl i =>
        rw [r] at hbd
        cases hbd
        obtain ⟨rI, oI⟩ := fl_rep (rd_fl row r)
        refine ⟨_, rfl, rfl, _, rfl, iteT ?_⟩
        refine ⟨_, rfl, q, rfl, ⟨_, SqL.of hqH⟩, fun Dc hDc => ?_⟩
        have nP := nPt tH hDc
        refine lc_list (xs := fs) (fun j H' => Sm P H H' ∧ H' Dc = some (.lst [])) ⟨Sm.new tH hDc, upd_same⟩ (fun j H' _ s => SqL.of (s.1.atL tH hqH)) ?_ ?_
        · rintro j x H' hx ⟨s1, hc⟩
          obtain ⟨f, N, js, t, rfl, la, bod⟩ := hfs i r x (List.mem_of_getElem? hx)
          have eG : LamX.ExtN G H' := fun c o e n => (Sm.lv ap lvH s1).1 c o (hb.sub c o e) n
          refine ⟨rfl, _, rfl, s1.2, f, .err CS (.int i), hdD "stream" (.int i), N, js, t, G, rfl, la, eG, .stream _ rI, bod, fun v2 H2 s2 d2 => ?_⟩
          refine ⟨_, rfl, _, .int i, rfl, .int i, rI, (by show 3 ≤ sizeLine; decide), fun m hm => ?_⟩
          have s3n := Sm.new s2.2 hm (o := .tup [.str "stream", .str (repD (.int i)), .bl true])
          refine ⟨hdD "stream" (.int i), hdD "stream" (.int i), Dp.mono s2.2 s3n d2, .tup (.inl (.inl upd_same)) (.cons (.str _) (.cons (.str _) (.cons (.bl _) .nil))), hd_sh (by decide +kernel) oI, hd_sh (by decide +kernel) oI, _, rfl, ?_⟩
          rw [hd_eqv]
          exact iteF ⟨s1.trans (s2.trans s3n), (s2.trans s3n).atL s1.2 hc⟩
        · rintro H' ⟨s1, hc⟩
          refine ⟨Nat.zero_le _, fun e he => ?_⟩
          have s2 := s1.trans (Sm.new s1.2 he (o := .lst []))
          refine ne_nil (SqL.of ((Sm.new s1.2 he (o := .lst [])).atL s1.2 hc)) .nil (by decide +kernel) upd_same ⟨_, rfl, iteF ?_⟩
          obtain ⟨b9, m9⟩ := hb.smv ap lvG s2
          exact k _ _ m9 b9
      | inr l =>
        rw [r] at hbd
        cases hbd
        obtain ⟨sq1, sq2, _⟩ := rd_sq (Int.le_refl 0) r
        have pn : prD D = none := by unfold prD; rw [r]
        refine ⟨_, rfl, rfl, _, rfl, iteF ?_⟩
        refine ⟨_, rfl, tH, v, D, rfl, hvH, ok, ?_⟩
        rw [pn]
        intro v1 H1 s1 d1
        refine ⟨v, D, rfl, rfl, Dp.mono tH s1 hvH, sq1, sq2, by omega, s1.2, fun v2 H2 s2 d2 => ?_⟩
        have sh := (tups_okD row).sh
        refine ⟨_, _, Dp.mono s1.2 s2 d1, d2, sh, sh, _, rfl, ?_⟩
        rw [row_eqv row]
        have s12 := s1.trans s2
        refine iteF ⟨_, rfl, _, rfl, s12.2, v, D, rfl, Dp.mono tH s12 hvH, ok, ?_⟩
        rw [pn]
        intro v4 H4 s4 d4
        obtain ⟨b9, m9⟩ := hb.smv ap lvG (s12.trans s4)
        obtain ⟨_, g, s0, e4, _⟩ := b9
        have hb4 : H4 b = some (.lst [.int g, .int s0]) := by rw [e4, upd_same]
        refine ⟨L2.del H4 b, b, v4, _, rfl, m9.2, (hb.smv ap lvG (s12.trans s4)).1, row_del hb4 row sq2 d4, row_pl row r, fun G5 H5 m5 b5 => ⟨_, rfl, iteF (k _ _ (m9.trans m5) b5)⟩⟩
    · rintro D' σ H ⟨b0, v, D, n, lv, bd, q, du, rfl, t, hv, len, hm, k⟩
      unfold whD at k
      cases r : rdD D (n : Nat) with
      | inl i =>
        rw [r] at hm k
        cases hm
        exact ⟨_, rfl, rfl, _, rfl, iteF (iteF (k H (Sm.refl t)))⟩
      | inr l =>
        rw [r] at hm k
        dsimp only at k
        obtain ⟨rfl, rfl, hq, p, rfl, hp⟩ := hm
        refine ⟨_, rfl, rfl, _, rfl, iteT ⟨_, rfl, (by show 1 ≤ sizeLine; decide), fun m hm => ?_⟩⟩
        have s1 := Sm.new t hm (o := .lst [.int (n : Nat)])
        refine ⟨_, rfl, m, p, _, _, rfl, rfl, upd_same, s1.atL t hp, Nat.le_trans (show 1 + _ ≤ 1001 by rw [List.length_map, List.length_range]; omega) (by decide), fun m2 hm2 => ?_⟩
        have s2 := s1.trans (Sm.new s1.2 hm2 (o := .lst ([V.int (n : Nat)] ++ (List.range (itD D).length).map fun j => V.int ((n : Nat) + lvA (itD D) (j + 1)))))
        refine ⟨1, rfl, m2, _, -1, _, rfl, rfl, SqL.of upd_same, last_lv _ _ _, _, _, rfl, rfl, _, rfl, ?_⟩
        refine ite2 (fun z => ?_) (fun z => ?_)
        · rw [if_pos (show (n : Int) + lvA (itD D) (itD D).length > 0 from of_decide_eq_true z)] at k
          obtain ⟨a, xs, rfl, hs, hi⟩ := dp_seq (Dp.mono t s2 hv) hq
          have lx := dpa_len hi
          refine ⟨_, rfl, a, xs, rfl, len_sq hs, ?_⟩
          rw [lx]
          exact k _ s2
        · rw [if_neg (show ¬ (n : Int) + lvA (itD D) (itD D).length > 0 from fun y => z (decide_eq_true y))] at k
          exact k _ s2
    · rintro D' σ H ⟨b0, v, D, n, lv, q, du, rfl, t, hv, ok, k⟩
      have nn : ∀ {a : Prop}, numD (.int (n : Nat)) = false → a := fun z => absurd (show (n : Int) ≥ 0 by omega) (of_decide_eq_false (p := (n : Int) ≥ 0) z)
      refine ⟨_, rfl, _, rfl, t, _, v, .int (n : Nat), D, rfl, .int _, hv, ok, nn, fun n' e _ H1 s1 => ?_⟩
      cases e
      refine ⟨_, rfl, _, rfl, s1.2, _, v, .int (n : Nat), D, rfl, .int _, Dp.mono t s1 hv, ok, nn, fun n' e _ H2 s2 => ?_⟩
      cases e
      refine ⟨(by show 2 ≤ sizeLine; decide), fun m hm => ?_⟩
      have s12 := s1.trans s2
      have s3 := s12.trans (Sm.new s12.2 hm (o := .lst [.bl (whD D (n : Nat)).isNone, .bl (whD D (n : Nat)).isNone]))
      have rok := two_ok (gd_leaf (lg_bool (whD D (n : Nat)).isNone))
      refine ⟨_, .list [.bool _, .bool _], rfl, .lst (.inl (.inl upd_same)) (.cons (.bl _) (.cons (.bl _) .nil)), rok, ?_⟩
      refine ⟨_, rfl, rfl, ?_⟩
      rw [oi_none]
      refine ⟨(by show 1 ≤ sizeLine; decide), fun n1 hn1 => ?_⟩
      have s4 := s3.trans (Sm.new s3.2 hn1 (o := .lst [.bl (whD D (n : Nat)).isNone]))
      refine ⟨n1, 2, _, rfl, rfl, upd_same, by decide, by decide, (by show 2 ≤ sizeLine; decide), fun n2 hn2 => ?_⟩
      have s5 := s4.trans (Sm.new s4.2 hn2 (o := .lst [.bl (whD D (n : Nat)).isNone, .bl (whD D (n : Nat)).isNone]))
      exact ⟨_, .list [.bool _, .bool _], rfl, .lst (.inl (.inl upd_same)) (.cons (.bl _) (.cons (.bl _) .nil)), rok, rfl, _, rfl, iteNS rfl (k _ s5)⟩
    · rintro σ H Q ⟨b0, v, D, n, lv, q, du, rfl, t, hv, row, k⟩
      refine ⟨_, rfl, rfl, _, rfl, ?_⟩
      rw [oi_none]
      unfold dueD at k
      cases e : whD D (n : Nat) with
      | none =>
        rw [e] at k
        obtain ⟨h1, h2⟩ := wh_sq e
        have := row_len row
        refine iteT ⟨v, D, rfl, rfl, hv, h1, h2, by omega, t, fun v' H' s d => ⟨(by show 2 ≤ sizeLine; decide), fun m hm => ?_⟩⟩
        exact k _ _ (s.trans (Sm.new s.2 hm)) (.tup (.inl (.inl upd_same)) (.cons (.str _) (.cons (Dp.mono s.2 (Sm.new s.2 hm) d) .nil)))
      | some i =>
        rw [e] at k
        refine iteF ⟨_, rfl, _, .int i, rfl, .int i, (fl_rep (wh_fl row e)).1, (by show 3 ≤ sizeLine; decide), fun m hm => ?_⟩
        exact k _ _ (Sm.new t hm) (.tup (.inl (.inl upd_same)) (.cons (.str _) (.cons (.str _) (.cons (.bl _) .nil))))
    · rintro D' σ H ⟨b0, v, D, n, lv, q, du, rfl, lvH, hv, row, hdu, k⟩
      obtain ⟨ok, _⟩ := row_ok row
      have nn : ∀ {a : Prop}, numD (.int (n : Nat)) = false → a := fun z => absurd (show (n : Int) ≥ 0 by omega) (of_decide_eq_false (p := (n : Int) ≥ 0) z)
      refine ask_read ap lvH (outD CS D n) (dueD D n) (out_heard row n) (fun H1 Q' E e sp => ?_) (fun v' H' mv d => ?_)
      · refine ⟨_, rfl, _, rfl, sp.2.1, _, v, .int (n : Nat), D, rfl, .int _, Dp.ext e hv, ok, nn, fun n' e' _ => ?_⟩
        cases e'
        exact out_wish sp
      · refine ⟨_, rfl, _, _, d, Dp.ext mv.1 hdu, due_sh row n, due_sh row n, _, rfl, ?_⟩
        rw [due_eqv row n]
        exact iteF (k H' mv)
    · rintro D' σ H ⟨b0, v, D, n, lv, q, du, rfl, lvH, hv, row, hdu, k⟩
      obtain ⟨ok, _⟩ := row_ok row
      have nn : ∀ {a : Prop}, numD (.int (n : Nat)) = false → a := fun z => absurd (show (n : Int) ≥ 0 by omega) (of_decide_eq_false (p := (n : Int) ≥ 0) z)
      refine ask_read ap lvH (outD CS D n) (dueD D n) (out_heard row n) (fun H1 Q' E e sp => ?_) (fun v' H' mv d => ?_)
      · refine ⟨_, rfl, _, rfl, sp.2.1, _, v, .int (n : Nat), D, rfl, .int _, Dp.ext e hv, ok, nn, fun n' e' _ => ?_⟩
        cases e'
        exact out_wish sp
      · refine ⟨_, rfl, _, _, d, Dp.ext mv.1 hdu, due_sh row n, due_sh row n, _, rfl, ?_⟩
        rw [due_eqv row n]
        exact iteF (k H' mv)
    · rintro D' σ H ⟨b0, v, D, n, lv, q, du, rfl, lvH, hv, row, hdu, k⟩
      obtain ⟨ok, _⟩ := row_ok row
      refine ⟨_, rfl, rfl, _, rfl, ?_⟩
      by_cases z : n = 0
      · subst z
        refine iteT ?_
        refine ask_read ap lvH (outD CS D 0) (dueD D 0) (out_heard row 0) (fun H1 Q' E e sp => ?_) (fun v' H' mv d => ?_)
        · exact ⟨_, rfl, sp.2.1, v, D, rfl, Dp.ext e hv, ok, out_wish sp⟩
        · refine ⟨_, rfl, _, _, d, Dp.ext mv.1 hdu, due_sh row 0, due_sh row 0, _, rfl, ?_⟩
          rw [due_eqv row 0]
          refine iteF ⟨_, rfl, mv.2.t, _, ⟨v, D, rfl, Dp.ext mv.1 hv, ok, rfl⟩, fun u H2 s2 eu => ?_⟩
          subst eu
          refine ⟨_, rfl, rfl, rfl, _, rfl, ?_⟩
          rw [oi_none]
          exact iteNS rfl (k _ (mv.sm ap s2))
      · rw [decide_eq_false (show ¬ V.int (n : Nat) = V.int 0 from fun y => z (by have := V.int.inj y; omega))]
        exact iteF (iteF (k H (Mv.refl lvH)))
    · obtain ⟨ok, ag⟩ := row_ok hrow
      have lvH := hb.lv ap lv
      have tH := lvH.t
      have hvH : Dp K H v D := Dp.xt hb.sub hv
      have l8 := row_len hrow
      refine ⟨_, rfl, v, D, 0, rfl, tH, hvH, ok, ag, Int.le_refl _, fun r x y H1 s1 hr1 hm => ⟨r, _, rfl, hr1, rfl, _, _, rfl, _, _, rfl, rfl, ?_⟩⟩
      have m1 := Sm.lv ap lvH s1
      refine ⟨m1.2, fun f1 H2 m2 _ _ la1 => ⟨(by show 1 ≤ sizeLine; decide), fun q hq => ?_⟩⟩
      refine app_ask ap m2.2 hq rfl (by show 1 < 100; decide) fun f2 G3 m3 n3 la2 => ?_
      refine app_ask ap m3.2 n3 rfl (by show 2 < 100; decide) fun f3 G4 m4 n4 la3 => ?_
      refine app_ask ap m4.2 n4 rfl (by show 3 < 100; decide) fun f4 G5 m5 n5 la4 => ?_
      refine app_ask ap m5.2 n5 rfl (by show 4 < 100; decide) fun f5 G6 m6 n6 la5 => ?_
      have mq := Mv.new ap m6.2 n6 (o := .lst ([V.ref f1] ++ [.ref f2] ++ [.ref f3] ++ [.ref f4] ++ [.ref f5]))
      obtain ⟨Hq, eHq⟩ : ∃ Hq, Hq = upd G6 q (.lst ([V.ref f1] ++ [.ref f2] ++ [.ref f3] ++ [.ref f4] ++ [.ref f5])) := ⟨_, rfl⟩
      have hqq : Hq q = some (.lst ([V.ref f1] ++ [.ref f2] ++ [.ref f3] ++ [.ref f4] ++ [.ref f5])) := by rw [eHq, upd_same]
      rw [← eHq] at mq ⊢
      have M5 := mq
      have M4 := m6.trans M5
      have M3 := m5.trans M4
      have M2 := m4.trans M3
      have M1 := m3.trans M2
      have la1 := la1.ext M1.1
      have la2 := la2.ext M2.1
      have la3 := la3.ext M3.1
      have la4 := la4.ext M4.1
      have la5 := la5.ext M5.1
      have mH := m1.trans (m2.trans M1)
      have tq := mH.2.t
      have hvq : Dp K Hq v D := Dp.ext mH.1 hvH
      obtain ⟨hbq, mG⟩ := hb.mv lv mH
      obtain ⟨nGb, gb, sb, ebq, _⟩ := hbq
      have hbb : Hq b = some (.lst [.int gb, .int sb]) := by rw [ebq, upd_same]
      have nqb : q ≠ b := fun z => by
        rw [z, hbb] at hqq
        exact nomatch (List.cons.inj (HO.lst.inj (Option.some.inj hqq))).1
      have hqG : L2.del Hq b q = some (.lst ([V.ref f1] ++ [.ref f2] ++ [.ref f3] ++ [.ref f4] ++ [.ref f5])) := by rw [del_ne nqb]; exact hqq
      have hvG := Dp.ext mG.1 hv
      refine ⟨L2.del Hq b, b, q, v, x, y, D, _, rfl, mG.2, (hb.mv lv mH).1, hvG, hrow, hqG, ?_, ?_, fun G8 H8 m8 hb8 => ?_⟩
      · cases r0 : rdD D 0 with
        | inl i =>
          rw [r0] at hm
          exact hm.2
        | inr l =>
          rw [r0] at hm
          exact hm.1
      · intro i r0 x1 hx1
        have pn : prD D = some i := by unfold prD; rw [r0]
        have er : ∀ {H1 : Hp} {E : XK} {Q' : VK}, spAsk K P (.err CS (.int i)) [] H1 Q' E → Rs P CS H1 E (.int i) := fun sp d H' s x => sp.2.2 d _ H' s x (.int i)
        simp only [List.mem_append, List.mem_cons, List.not_mem_nil, or_false] at hx1
        rcases hx1 with (((rfl | rfl) | rfl) | rfl) | rfl
        · refine ⟨f1, _, _, _, rfl, la1.del hbb, fun H1 Q' E e sp => ⟨_, rfl, sp.2.1, v, D, rfl, Dp.ext e hvG, ok, ?_⟩⟩
          rw [pn]
          exact er sp
        · refine ⟨f2, _, _, _, rfl, la2.del hbb, fun H1 Q' E e sp => ⟨_, rfl, sp.2.1, v, D, rfl, Dp.ext e hvG, ok, ?_⟩⟩
          rw [r0]
          exact er sp
        · refine ⟨f3, _, _, _, rfl, la3.del hbb, fun H1 Q' E e sp => ⟨_, rfl, sp.2.1, v, D, rfl, Dp.ext e hvG, ok, ?_⟩⟩
          rw [pn]
          exact er sp
        · refine ⟨f4, _, _, _, rfl, la4.del hbb, fun H1 Q' E e sp => ⟨_, rfl, sp.2.1, v, D, rfl, Dp.ext e hvG, ok, ?_⟩⟩
          rw [pn]
          exact er sp
        · refine ⟨f5, _, _, _, rfl, la5.del hbb, fun H1 Q' E e sp => ⟨_, rfl, sp.2.1, v, _, D, .none, rfl, Dp.ext e hvG, ok, .non, ?_⟩⟩
          rw [pn]
          exact er sp
      · have M8 := mG.trans m8
        refine ⟨_, rfl, G8, b, 4, rfl, hb8, by decide, by decide, fun r4 H9 hr4 hb9 => ⟨(by show 4 ≤ sizeLine; decide), fun tp htp => ?_⟩⟩
        obtain ⟨ntp, hbt⟩ := hb9.new (o := .tup [.int 0, .int 1, .int 2, .int (r4 : Nat)]) htp
        have mt := Mv.new ap M8.2 ntp (o := .tup [.int 0, .int 1, .int 2, .int (r4 : Nat)])
        obtain ⟨Gt, eGt⟩ : ∃ Gt, Gt = upd G8 tp (.tup [.int 0, .int 1, .int 2, .int (r4 : Nat)]) := ⟨_, rfl⟩
        have htG : SqT K Gt tp [.int 0, .int 1, .int 2, .int (r4 : Nat)] := .inl (.inl (by rw [eGt, upd_same]))
        rw [← eGt] at mt hbt
        have Mt := M8.trans mt
        have hvt := Dp.ext Mt.1 hv
        refine ⟨tp, rfl, ⟨_, sqt_xt hbt.sub htG⟩, for_tup (xs := [.int 0, .int 1, .int 2, .int (r4 : Nat)]) (fun i σ H' => ∃ (G9 : Hp) (lv9 bd9 : V) (du9 mn9 : Option V), σ = [some (.ref b), some v, some lv9, some bd9, some (.ref q), du9, mn9, none, none] ∧ Mv L P Gt G9 ∧ BxG G9 b H')
          ⟨Gt, _, _, _, _, rfl, Mv.refl Mt.2, hbt⟩ (fun i σ H' _ ⟨_, _, _, _, _, _, m, bx⟩ => sqt_xt bx.sub (sqt_ext m.1 htG)) ?_ ?_⟩
        · rintro i x2 σ H' hx2 ⟨G9, lv9, bd9, du9, mn9, rfl, m9, bx9⟩
          obtain ⟨n, rfl⟩ : ∃ n : Nat, x2 = .int (n : Nat) := by
            match i, hx2 with
            | 0, h => cases h; exact ⟨0, rfl⟩
            | 1, h => cases h; exact ⟨1, rfl⟩
            | 2, h => cases h; exact ⟨2, rfl⟩
            | 3, h => cases h; exact ⟨r4, rfl⟩
          have lv9' := bx9.lv ap m9.2
          have hv9 : Dp K H' v D := Dp.xt bx9.sub (Dp.ext m9.1 hvt)
          refine ⟨_, rfl, _, rfl, v, D, (n : Nat), rfl, lv9'.t, hv9, ok, ag, by omega, fun r x y H1 s1 hr1 hm => ⟨r, _, rfl, hr1, rfl, _, _, rfl, _, _, rfl, rfl, ?_⟩⟩
          have n1 := Sm.lv ap lv9' s1
          refine ⟨_, v, D, n, x, y, .ref q, du9, rfl, s1.2, Dp.mono lv9'.t s1 hv9, by omega, ?_, fun H2 s2 => ?_⟩
          · cases r0 : rdD D (n : Nat) with
            | inl i =>
              rw [r0] at hm
              exact hm.2
            | inr l =>
              rw [r0] at hm
              obtain ⟨h1, h2, h3⟩ := rd_sq (by omega) r0
              exact ⟨hm.1, h3, h1, hm.2⟩
          · have n2 := n1.sm ap s2
            refine ⟨_, v, D, n, x, .ref q, du9, rfl, n2.2.t, Dp.ext n2.1 hv9, ok, fun H3 s3 => ?_⟩
            have n3 := n2.sm ap s3
            refine ⟨_, v, D, n, x, .ref q, du9, rfl, n3.2.t, Dp.ext n3.1 hv9, hrow, fun y4 H4 s4 d4 => ?_⟩
            have n4 := n3.sm ap s4
            refine ⟨_, v, D, n, x, .ref q, y4, rfl, n4.2, Dp.ext n4.1 hv9, hrow, d4, fun H5 m5 => ?_⟩
            refine ⟨_, v, D, n, x, .ref q, y4, rfl, m5.2, Dp.ext (n4.trans m5).1 hv9, hrow, Dp.ext m5.1 d4, fun H6 m6 => ?_⟩
            refine ⟨_, v, D, n, x, .ref q, y4, rfl, m6.2, Dp.ext ((n4.trans m5).trans m6).1 hv9, hrow, Dp.ext (m5.trans m6).1 d4, fun H7 m7 => ?_⟩
            obtain ⟨b7, k7⟩ := bx9.mv m9.2 (((n4.trans m5).trans m6).trans m7)
            exact ⟨_, _, _, _, _, rfl, m9.trans k7, b7⟩
        · rintro σ H' ⟨G9, lv9, bd9, du9, mn9, rfl, m9, bx9⟩
          exact k _ _ (Mt.trans m9) bx9
end
end K6

set_option Elab.async false
set_option linter.all false
set_option maxRecDepth 100000
set_option maxHeartbeats 4000000
namespace K6
open PySem PySem.Spec PyProof.Rows L2 So SoFr SoC
/-! ### the signs of a document are a stream -/
theorem lev_of : ∀ {es : List PyData} {i : Nat} {l : Int}, (∀ d ∈ es, sgnD d = true) → (∀ j, j ≤ es.length → 0 ≤ l + lvA es j) → levD es i l = .inr (l + lvA es es.length)
  | [], i, l, _, _ => by
    show Sum.inr l = _
    rw [show lvA [] ([] : List PyData).length = 0 from rfl, Int.add_zero]
  | d :: r, i, l, hs, hl => by
    have h1 : ∀ j, lvA (d :: r) (j + 1) = stpD d + lvA r j := fun j => by
      unfold lvA
      rw [List.take_succ_cons, List.map_cons, List.sum_cons]
    have h0 := hl 1 (by simp)
    have e0 : lvA (d :: r) 1 = stpD d := by rw [h1 0, lvA_zero, Int.add_zero]
    rw [lev_cons, if_neg (by rw [hs d (List.mem_cons_self ..)]; exact fun z => Bool.noConfusion z), if_neg (by omega)]
    rw [lev_of (fun x hx => hs x (List.mem_cons_of_mem _ hx)) (fun j hj => by
      have := hl (j + 1) (by rw [List.length_cons]; omega)
      rw [h1] at this
      omega)]
    rw [List.length_cons, h1, Int.add_assoc]
theorem lvA_app {as bs : List PyData} (j : Nat) : lvA (as ++ bs) (as.length + j) = lvA as as.length + lvA bs j := by
  unfold lvA
  rw [List.take_append, List.take_of_length_le (show as.length ≤ as.length + j by omega), show as.length + j - as.length = j by omega, List.map_append, List.sum_append, List.take_length]
theorem lvA_app1 {as bs : List PyData} {j : Nat} (h : j ≤ as.length) : lvA (as ++ bs) j = lvA as j := by
  unfold lvA
  rw [List.take_append_of_le_length h]
structure Bal (es : List PyData) : Prop where
  lv : ∀ j, j ≤ es.length → 0 ≤ lvA es j
  all : lvA es es.length = 0
theorem Bal.nil : Bal [] := ⟨fun j _ => by cases j <;> exact Int.le_refl _, rfl⟩
theorem Bal.app {as bs : List PyData} (a : Bal as) (b : Bal bs) : Bal (as ++ bs) := by
  refine ⟨fun j hj => ?_, ?_⟩
  · by_cases z : j ≤ as.length
    · rw [lvA_app1 z]
      exact a.lv j z
    · obtain ⟨k, rfl⟩ : ∃ k, j = as.length + k := ⟨j - as.length, by omega⟩
      rw [lvA_app, a.all, Int.zero_add]
      rw [List.length_append] at hj
      exact b.lv k (by omega)
  · rw [List.length_append, lvA_app, a.all, b.all]
    rfl
theorem Bal.node {o c : PyData} {es : List PyData} (b : Bal es) (ho : stpD o = 1) (hc : stpD c = -1) : Bal ((o :: es) ++ [c]) := by
  have h1 : ∀ j, lvA (o :: es) (j + 1) = 1 + lvA es j := fun j => by
    unfold lvA
    rw [List.take_succ_cons, List.map_cons, List.sum_cons, ho]
  have hl : ∀ j, j ≤ (o :: es).length → 0 ≤ lvA (o :: es) j := fun j hj => by
    cases j with
    | zero => exact Int.le_refl _
    | succ j =>
      rw [h1]
      have := b.lv j (by rw [List.length_cons] at hj; omega)
      omega
  have hc1 : lvA [c] 1 = -1 := by
    unfold lvA
    simp [hc]
  have he : lvA (o :: es) (o :: es).length = 1 := by rw [List.length_cons, h1, b.all]; rfl
  refine ⟨fun j hj => ?_, ?_⟩
  · by_cases z : j ≤ (o :: es).length
    · rw [lvA_app1 z]
      exact hl j z
    · rw [List.length_append, List.length_singleton] at hj
      have : j = (o :: es).length + 1 := by omega
      rw [this, lvA_app, he, hc1]
      decide
  · rw [List.length_append, List.length_singleton, lvA_app, he, hc1]
    rfl
theorem Bal.one {d : PyData} (h : stpD d = 0) : Bal [d] := by
  have h1 : lvA [d] 1 = 0 := by
    unfold lvA
    simp [h]
  refine ⟨fun j hj => ?_, h1⟩
  match j, hj with
  | 0, _ => exact Int.le_refl _
  | 1, _ => rw [h1]; exact Int.le_refl _
mutual
theorem bal_N : ∀ d : Nd, Bal (sgN d)
  | .tx z => by
    simp only [sgN]
    exact Bal.one rfl
  | .el l ds => by
    simp only [sgN]
    exact Bal.node (bal_S ds) rfl rfl
theorem bal_S : ∀ ds : List Nd, Bal (sgS ds)
  | [] => by
    simp only [sgS]
    exact Bal.nil
  | d :: r => by
    simp only [sgS]
    exact (bal_N d).app (bal_S r)
end
/-- a sign of a drawn document -/
inductive SgI : PyData → Prop
  | tx (z : Str) (h : okT z) : SgI (.tuple [.str "text", .str z])
  | op (l : Str) (h : okL l) : SgI (.tuple [.str "open", .str l])
  | cl : SgI (.tuple [.str "close"])
mutual
theorem sgi_N : ∀ d : Nd, okN d → ∀ e ∈ sgN d, SgI e
  | .tx z, h => by
    simp only [okN] at h
    simp only [sgN, List.mem_singleton]
    rintro e rfl
    exact .tx z h
  | .el l ds, h => by
    simp only [okN] at h
    simp only [sgN, List.mem_append, List.mem_cons, List.not_mem_nil, or_false]
    rintro e ((rfl | he) | rfl)
    · exact .op l h.1
    · exact sgi_S ds h.2.2 e he
    · exact .cl
theorem sgi_S : ∀ ds : List Nd, okS ds → ∀ e ∈ sgS ds, SgI e
  | [], _ => by
    simp only [sgS]
    exact fun _ z => nomatch z
  | d :: r, h => by
    simp only [okS] at h
    simp only [sgS, List.mem_append]
    rintro e (he | he)
    · exact sgi_N d h.1 e he
    · exact sgi_S r h.2 e he
end
theorem labs_ok : [("a" : Str), "b", "ab", "abcdefghijkl"].all (fun l => decide (lblL l = isLab l) && (isLab l && (lgB (.str l) && (PyData.strOk l && decide (l.length ≤ 12))))) = true := by decide +kernel
theorem sgi_ok {d : PyData} (h : SgI d) : sgnD d = true ∧ tupD d = d ∧ (fitD d = true ∧ d.canLay0 = true ∧ d.depth ≤ 20) ∧ agS d = true ∧ ∀ a z, itD d = [a, .str z] → isS a "open" = true → lgB (.str z) = true := by
  cases h with
  | tx z h =>
    obtain ⟨h1, h2⟩ := h
    have h3 : (z.length : Int) ≤ 65535 := by omega
    refine ⟨?_, rfl, ⟨?_, ?_, ?_⟩, ?_, fun a y e o => ?_⟩
    · unfold sgnD fauD
      rw [show itD (PyData.tuple [.str "text", .str z]) = [.str "text", .str z] from rfl]
      dsimp only
      rw [if_neg (by decide +kernel), if_pos (by decide +kernel), if_pos (show txtD (.str z) = true from decide_eq_true h3)]
      rfl
    · have : z.length ≤ 100000 := by omega
      have e1 : (("text" : Str)).length ≤ 100000 := by decide +kernel
      simp [fitD, fitA, this, e1]
    · have e1 : PyData.strOk "text" = true := by decide +kernel
      simp [PyData.canLay0, PyData.canLayAll0, h2, e1]
    · simp [PyData.depth, PyData.depthAll]
    · unfold agS
      rw [show itD (PyData.tuple [.str "text", .str z]) = [.str "text", .str z] from rfl]
      dsimp only [oneStr]
      rw [show isS (.str "text") "open" = false by decide +kernel, decide_eq_true h3]
      rfl
    · cases e
      exact absurd o (by decide +kernel)
  | op l h =>
    have q := List.all_eq_true.mp labs_ok l h
    simp only [Bool.and_eq_true, decide_eq_true_eq] at q
    obtain ⟨q1, q2, q3, q4, q5⟩ := q
    refine ⟨?_, rfl, ⟨?_, ?_, ?_⟩, ?_, fun a y e o => ?_⟩
    · unfold sgnD fauD
      rw [show itD (PyData.tuple [.str "open", .str l]) = [.str "open", .str l] from rfl]
      dsimp only
      rw [if_pos (by decide +kernel), if_pos (show labD (.str l) = true from q2)]
      rfl
    · have : l.length ≤ 100000 := by omega
      have e1 : (("open" : Str)).length ≤ 100000 := by decide +kernel
      simp [fitD, fitA, this, e1]
    · have e1 : PyData.strOk "open" = true := by decide +kernel
      simp [PyData.canLay0, PyData.canLayAll0, q4, e1]
    · simp [PyData.depth, PyData.depthAll]
    · unfold agS
      rw [show itD (PyData.tuple [.str "open", .str l]) = [.str "open", .str l] from rfl]
      dsimp only [oneStr]
      rw [decide_eq_true q1, decide_eq_true (show (l.length : Int) ≤ 65535 by omega), Bool.or_true]
      rfl
    · cases e
      exact q3
  | cl => exact ⟨by decide +kernel, rfl, ⟨by decide +kernel, by decide +kernel, by decide +kernel⟩, by decide +kernel, fun a z e => nomatch e⟩
/-- what a stream is in its parts -/
theorem cut_lv {es : List PyData} (b : Bal es) (hs : ∀ d ∈ es, sgnD d = true) {n : Nat} (hn : n ≤ es.length) : rdD (.tuple (es.take n)) 0 = .inr (lvA es n) ∧ whD (.tuple (es.drop n)) (lvA es n) = none ∧ 0 ≤ lvA es n := by
  have e0 : es.take n ++ es.drop n = es := List.take_append_drop n es
  have l1 : (es.take n).length = n := by rw [List.length_take]; omega
  have a1 : ∀ j, j ≤ n → lvA (es.take n) j = lvA es j := fun j hj => by
    have := lvA_app1 (as := es.take n) (bs := es.drop n) (j := j) (by omega)
    rw [e0] at this
    exact this.symm
  have a2 : ∀ j, lvA es n + lvA (es.drop n) j = lvA es (n + j) := fun j => by
    have := lvA_app (as := es.take n) (bs := es.drop n) j
    rw [e0, l1, a1 n (Nat.le_refl _)] at this
    exact this.symm
  refine ⟨?_, ?_, b.lv n hn⟩
  · show levD (es.take n) 0 0 = _
    rw [lev_of (fun d hd => hs d (List.mem_of_mem_take hd)) (fun j hj => by
      rw [l1] at hj
      rw [Int.zero_add, a1 j hj]
      exact b.lv j (by omega)), l1, a1 n (Nat.le_refl _), Int.zero_add]
  · unfold whD
    rw [show rdD (.tuple (es.drop n)) (lvA es n) = levD (es.drop n) 0 (lvA es n) from rfl, lev_of (fun d hd => hs d (List.mem_of_mem_drop hd)) (fun j hj => by
      rw [List.length_drop] at hj
      rw [a2]
      exact b.lv _ (by omega))]
    dsimp only
    rw [a2, List.length_drop, show n + (es.length - n) = es.length by omega, b.all]
    rfl
theorem sgi_okD {es : List PyData} (h : ∀ e ∈ es, SgI e) (l : es.length ≤ 1000) : OkD (.tuple es) := okD_row (by omega) fun d hd => (sgi_ok (h d hd)).2.2.1
theorem sgi_pl {es : List PyData} (h : ∀ e ∈ es, SgI e) (l : es.length ≤ 1000) (r : ∃ m, rdD (.tuple es) 0 = .inr m) : PrL es := by
  refine ⟨r, ?_, sgi_okD h l, List.all_eq_true.mpr fun d hd => (sgi_ok (h d hd)).2.2.2.1, l, fun d hd => (sgi_ok (h d hd)).2.2.2.2⟩
  have : es.map tupD = es.map id := List.map_congr_left fun d hd => (sgi_ok (h d hd)).2.1
  rw [this, List.map_id]
/-! ### slices of tuples, by data -/
def rSlD (K : PySem.W.Frag) (P : Addr) : V → Option Int → Option Int → Hp → VK → Prop := fun x lo hi H Q => ∃ ds, Dp K H x (.tuple ds) ∧ GxR.TabG H P ∧ ∃ n : Nat, n ≤ ds.length ∧
  ((lo = none ∧ hi = some (n : Int) ∧ ∀ v H', Sm P H H' → Dp K H' v (.tuple (ds.take n)) → Q v H') ∨ (hi = none ∧ lo = some (n : Int) ∧ ∀ v H', Sm P H H' → Dp K H' v (.tuple (ds.drop n)) → Q v H'))
theorem sl_D {X : Cx} {P : Addr} : SlR X (rSlD X.K P) := by
  intro pins s σ H x v vl vu lo hi sl Q J rx hs hl hh ⟨ds, dx, t, n, hn, q⟩
  have h : SlR X (rSlA X.K) := sl_tupA
  obtain ⟨a, xs, rfl, ha, hxs⟩ := dp_tup dx
  have lx := dpa_len hxs
  have e1 : HT.sIx xs.length 0 (some (n : Int)) = n := by
    unfold HT.sIx
    dsimp only
    rw [if_neg (by omega), Int.toNat_natCast]
    omega
  have e2 : HT.sIx xs.length xs.length (some (n : Int)) = n := by
    unfold HT.sIx
    dsimp only
    rw [if_neg (by omega), Int.toNat_natCast]
    omega
  rcases q with ⟨rfl, rfl, q⟩ | ⟨rfl, rfl, q⟩
  · refine h pins s σ H _ v vl vu none (some (n : Int)) sl Q J rx hs hl hh ⟨a, xs, rfl, ha, fun z => ?_, fun z p hp => ?_⟩
    · rw [e2] at z
      have : ds.take n = ds := List.take_of_length_le (by omega)
      exact q _ _ (Sm.refl t) (by rw [this]; exact .tup ha hxs)
    · rw [cutT]
      exact q _ _ (Sm.new t hp) (.tup (.inl (.inl upd_same)) (dpa_take _ (DpAll.mono t (Sm.new t hp) hxs)))
  · refine h pins s σ H _ v vl vu (some (n : Int)) none sl Q J rx hs hl hh ⟨a, xs, rfl, ha, fun z => ?_, fun z p hp => ?_⟩
    · rw [e1] at z
      have : n = 0 := z.1
      subst this
      exact q _ _ (Sm.refl t) (.tup ha hxs)
    · rw [cutN]
      exact q _ _ (Sm.new t hp) (.tup (.inl (.inl upd_same)) (dpa_drop _ (DpAll.mono t (Sm.new t hp) hxs)))
theorem sgi_flat {d : PyData} (h : SgI d) : isSq d = true ∧ (itD d).all flat = true := by
  cases h with
  | tx z h => exact ⟨rfl, rfl⟩
  | op l h => exact ⟨rfl, rfl⟩
  | cl => exact ⟨rfl, rfl⟩
theorem sgi_del {K : PySem.W.Frag} {H : Hp} {b : Addr} {ys : List V} {v : V} {es : List PyData} (e : H b = some (.lst ys)) (h : ∀ d ∈ es, SgI d) (d : Dp K H v (.tuple es)) : Dp K (L2.del H b) v (.tuple es) := by
  have q : es.map tupD = es := by
    have : es.map tupD = es.map id := List.map_congr_left fun d hd => (sgi_ok (h d hd)).2.1
    rw [this, List.map_id]
  cases d with
  | tup a c =>
    rw [← q] at c ⊢
    exact .tup (sqt_del e a) (tts_dp e (fun d hd => sgi_flat (h d hd)) c)
/-! ### a tuple of one, many times, by data -/
def rRepD (K : PySem.W.Frag) (P : Addr) : R2 := fun x y H Q => ∃ (d : PyData) (n : Nat), Dp K H x (.tuple [d]) ∧ y = .int (n : Nat) ∧ n ≤ 1000 ∧ GxR.TabG H P ∧ ∀ v H', Sm P H H' → Dp K H' v (.tuple (List.replicate n d)) → Q v H'
theorem op_repD {X : Cx} {P : Addr} : OpR X (binaryOp Operator.Mult) (rRepD X.K P) := by
  intro pins s σ H x y v u Q J h1 h2 hh
  obtain ⟨d, n, dx, rfl, hn, t, q⟩ := hh
  have h : OpR X (binaryOp Operator.Mult) (SoM.rRepS X.K) := SoM.op_repS
  obtain ⟨a, xs, rfl, ha, hxs⟩ := dp_tup dx
  cases hxs with
  | @cons x0 _ _ _ h0 hr =>
    cases hr
    refine h pins s σ H _ _ v u Q J h1 h2 ⟨a, _, [x0], rfl, rfl, ha, (fun z => nomatch z), by omega, by omega, (by show 1 ≤ 1000; decide), fun e1 => ?_, fun _ r hr => ?_⟩
    · have e1 : n = 1 := by omega
      subst e1
      exact q _ _ (Sm.refl t) (.tup ha (.cons h0 .nil))
    · refine q _ _ (Sm.new t hr) (.tup (.inl (.inl upd_same)) ?_)
      rw [rep_flat]
      exact dpa_rep (Dp.mono t (Sm.new t hr) h0) n
/-- closes, as a stream of the ending -/
theorem clos_ok {n : Nat} (h : n ≤ 1000) : OkD (closD n) ∧ whD (closD n) (n : Nat) = none := by
  have hs : ∀ d ∈ List.replicate n (PyData.tuple [.str "close"]), SgI d := fun d hd => by rw [(List.mem_replicate.mp hd).2]; exact .cl
  refine ⟨sgi_okD hs (by rw [List.length_replicate]; exact h), ?_⟩
  have lv : ∀ j, j ≤ n → lvA (List.replicate n (PyData.tuple [.str "close"])) j = -(j : Int) := by
    intro j hj
    unfold lvA
    rw [List.take_replicate, Nat.min_eq_left hj, List.map_replicate, show stpD (PyData.tuple [.str "close"]) = -1 by decide +kernel]
    clear hj
    induction j with
    | zero => rfl
    | succ j ih =>
      rw [List.replicate_succ, List.sum_cons, ih]
      omega
  unfold whD closD
  rw [show rdD (.tuple (List.replicate n (PyData.tuple [.str "close"]))) (n : Nat) = levD (List.replicate n (PyData.tuple [.str "close"])) 0 (n : Nat) from rfl, lev_of (fun d hd => (sgi_ok (hs d hd)).1) (fun j hj => by
    rw [List.length_replicate] at hj
    rw [lv j hj]
    omega)]
  dsimp only
  rw [List.length_replicate, lv n (Nat.le_refl _), if_neg (by omega)]
end K6

set_option Elab.async false
set_option linter.all false
set_option maxRecDepth 100000
set_option maxHeartbeats 4000000
namespace K6
open PySem PySem.Spec PyProof.Rows L2 So SoFr SoC
section
variable {Pg : Program} {w : World} {K : PySem.W.Frag} {mg : Str → Option Value} {base : Heap} {P CS CR : Addr} {L : List (Addr × Str)}
/-! ### law -/
abbrev nLaw : List Str := ["script", "k", "box", "stream", "at", "many", "asks", "odd", "ask"]
theorem scLaw : FnScope nLaw ["script"] (defScope sLaw) := ⟨rfl, rfl, rfl, by decide +kernel, rfl, by decide +kernel, by decide +kernel⟩
def spLaw (K : PySem.W.Frag) (P : Addr) (L : List (Addr × Str)) : Sp := fun vs H Q _ => Lv L P H ∧ ∃ (a : Addr) (ns : List Int), vs = [.ref a] ∧ SqL K H a (ns.map V.int) ∧ ns.length ≤ 63 ∧ ∀ H', Q (.bl true) H'
abbrev t9 (K : PySem.W.Frag) (P CS CR : Addr) : XK → TE := fun E => tCall (spCen K P CS CR) [] E (tCons (tVar 0) (tCons (tC .non) tNil))
abbrev t10 (K : PySem.W.Frag) (P CR : Addr) : XK → TE := fun E => tCall (spIen K P CR) [] E (tCons (tVar 0) (tCons (tC .non) tNil))
abbrev t11 (K : PySem.W.Frag) (P CR : Addr) : XK → TE := fun E => tCall (spClo K P CR) [] E (tCons (tVar 0) tNil)
abbrev tAskC (X : Cx) (K : PySem.W.Frag) (P CS CR : Addr) (σ0 : L2.St) : TT := tTest (tOp (rNeD K) (tCallF (preB X P CS CR σ0) (tCons (tVar 8) tNil)) (tTup (tCons (tC (.str "refused")) (tCons (tCB (rReprA K) (tCons (tVar 7) tNil)) (tCons (tC (.bl true)) tNil)))))
def prVar (K : PySem.W.Frag) (P : Addr) (L : List (Addr × Str)) : L2.St → List V → Hp → VK → Prop := fun _ vs H Q => ∃ (G : Hp) (b : Addr) (v : V) (D : PyData), vs = [.ref b, v] ∧ Lv L P G ∧ BxG G b H ∧ Dp K G v D ∧ okRow D ∧ ∀ G' H', Mv L P G G' → BxG G' b H' → Q (.bl true) H'
theorem pe_vrr {X : Cx} {p pos : Pos} {e : Expr} {es : List Expr} {ta : TA} (Var : FxS X.prog X.w X.K X.mg X.base 11 "_law_value_right" ["box", "value"] (spVar X.K P L)) (hgd : X.A.guards = some []) (hr : Room 11 X.A) (hg : Gl X "_law_value_right") (ha : PA X (e :: es) ta)
    (he : starEach (e :: es) X.env = (false, eval e X.env) :: starEach es X.env := by rfl) (hpl : (backTo pos (starEach es X.env)).any (·.1) = false := by rfl) : PE X (.Call (.Name "_law_value_right" p) (e :: es) [] pos) (tCallF (prVar X.K P L) ta) :=
  pe_callF Var.ok hgd hr (Nat.le_refl _) hg Var.g Var.kp Var.b pass0 (fun _ _ _ _ _ _ _ q => q) ha (by decide) he hpl
theorem odd5 {U : PyData} (h : U ∈ [PyData.none, .int (-1), .bool true, .str "0", .tuple []]) : repOk U ∧ PyData.strOk (repD U) = true ∧ numD U = false := by
  have fe := List.all_eq_true.mp fl_else
  simp only [List.mem_cons, List.not_mem_nil, or_false] at h
  rcases h with rfl | rfl | rfl | rfl | rfl
  · exact ⟨(fl_rep (fe _ (by simp))).1, (fl_rep (fe _ (by simp))).2, rfl⟩
  · exact ⟨(fl_rep (fe _ (by simp))).1, (fl_rep (fe _ (by simp))).2, rfl⟩
  · exact ⟨(fl_rep (fe _ (by simp))).1, (fl_rep (fe _ (by simp))).2, rfl⟩
  · exact ⟨(fl_rep (fe _ (by simp))).1, (fl_rep (fe _ (by simp))).2, rfl⟩
  · exact ⟨⟨by decide +kernel, by decide +kernel, by decide +kernel, by decide +kernel⟩, by decide +kernel, rfl⟩
theorem num_no {U : PyData} (h : numD U = false) {n : Int} (e : U = .int n) (n0 : 0 ≤ n) {a : Prop} : a := by
  subst e
  exact absurd n0 (of_decide_eq_false (p := n ≥ 0) h)
theorem ok_law {f c Pl : Addr} {fd : FuncData} (F : DfC K mg "law" sLaw ["script"] f fd c) (T : Ty K mg) (TB : LamX.TabB base mg c Pl) (ap : Apart L P) (hP : Pl ≠ P) (hm : (Pl, ("law" : Str) ++ ".<locals>." ++ "<lambda>") ∈ L) (hu2 : ∀ p ∈ L, p.1 = Pl → p.2 = ("law" : Str) ++ ".<locals>." ++ "<lambda>")
    (Dep : Fx1 Pg w K mg base (L2.CX Pg w) 5 "depth" "prefix" (spDep K P CS)) (Cen : Fx2 Pg w K mg base (L2.CX Pg w) 6 "check_ending" "depth" "value" (spCen K P CS CR)) (Ien : Fx2 Pg w K mg base (L2.CX Pg w) 7 "is_ending" "depth" "value" (spIen K P CR)) (Ist : Fx1 Pg w K mg base CX0 7 "is_stream" "value" (spIst K P)) (Clo : Fx1 Pg w K mg base (L2.CX Pg w) 3 "closing" "depth" (spClo K P CR))
    (Bx : Fx Pg w K mg base CX0 1 "_law_box" ["script", "k"] (spBox K P)) (Tak : Fx Pg w K mg base CX0 1 "_law_take" ["box", "many"] spTakG) (Pck : Fx Pg w K mg base CX0 2 "_law_pick" ["box", "some"] (spPckG K)) (Row : Fx Pg w K mg base CX0 3 "_law_row" ["box"] (spLrw K P)) (Doc : Fx Pg w K mg base CX0 8 "_law_document" ["box", "within"] (spLdc K P 4)) (Sig : Fx Pg w K mg base CX0 6 "_law_signs" ["document"] (spLsg K P 5))
    (Hrd : FxS Pg w K mg base 9 "_law_heard" ["ask"] (spHrd Pg w K mg base P CS CR)) (Prr : FxS Pg w K mg base 10 "_law_prefix_right" ["box", "line"] (spPrr K P L)) (Var : FxS Pg w K mg base 11 "_law_value_right" ["box", "value"] (spVar K P L)) :
    FnS Pg w K mg base CX0 12 f fd ["script"] (fun _ => spLaw K P L) := by
  refine okC F scLaw (fun s vs H Q E h => ?_) (fun A outer s H vs Q E hr hgd h => ?_)
  · obtain ⟨_, _, _, rfl, _⟩ := h
    rfl
  · obtain ⟨lvH, a, ns, rfl, hS, hlen, k⟩ := h
    have hu := hr.units
    have r1 : Room 1 _ := hr.mono (by decide)
    have r2 : Room 2 _ := hr.mono (by decide)
    have r3 : Room 3 _ := hr.mono (by decide)
    have r5 : Room 5 _ := hr.mono (by decide)
    have r6 : Room 6 _ := hr.mono (by decide)
    have r7 : Room 7 _ := hr.mono (by decide)
    have r8 : Room 8 _ := hr.mono (by decide)
    have r9 : Room 9 _ := hr.mono (by decide)
    have r10 : Room 10 _ := hr.mono (by decide)
    refine ⟨_, pss_cons (ps_for (passes_of rfl) rfl (pi_range1 (by rfl) T.T.range (pa_cons (pe_callB (call_max2 rfl) (by rfl) T.max (by decide +kernel) (pa_cons pe_int (pa_cons (pe_callB (call_min2 rfl) (by rfl) T.T.min (by decide +kernel) (pa_cons (pe_callB call_len_seq (by rfl) T.T.len (by decide +kernel) (pa_cons (pv 0) pa_nil)) (pa_cons pe_int pa_nil))) pa_nil))) pa_nil)) (pg_name (i := 1) scLaw.nd rfl (.inl rfl))
        (pss_cons (ps_set (i := 2) scLaw.nd rfl (.inl rfl) (pe_call Bx.ok r1 (by rfl) Bx.g Bx.kp Bx.b .nil pass0 (pa_cons (pv 0) (pa_cons (pv 1) pa_nil))))
        (pss_cons (ps_if (pt_not (pt_val (pe_vrr (L := L) (P := P) Var hgd hr (by rfl) (pa_cons (pv 2) (pa_cons (pe_call Row.ok r3 (by rfl) Row.g Row.kp Row.b .nil pass0 (pa_cons (pv 2) pa_nil)) pa_nil))))) (pss_one (ps_ret pe_bl)) pss_nil)
        (pss_cons (ps_set (i := 3) scLaw.nd rfl (.inl rfl) (pe_call Sig.ok r6 (by rfl) Sig.g Sig.kp Sig.b .nil pass0 (pa_cons (pe_call Doc.ok r8 (by rfl) Doc.g Doc.kp Doc.b .nil pass0 (pa_cons (pv 2) (pa_cons pe_int pa_nil))) pa_nil)))
        (pss_cons (ps_set (i := 4) scLaw.nd rfl (.inl rfl) (pe_call Tak.ok r1 (by rfl) Tak.g Tak.kp Tak.b .nil pass0 (pa_cons (pv 2) (pa_cons (pe_op op_add (pe_callB call_len_seq (by rfl) T.T.len (by decide +kernel) (pa_cons (pv 3) pa_nil)) pe_int) pa_nil))))
        (pss_cons (ps_if (PW.pt (pw_or (pt_not (pt_val (pe_call Ist.ok r7 (by rfl) Ist.g Ist.kp Ist.b .nil pass0 (pa_cons (pv 3) pa_nil)))) (pw_or (pt_not (pt_val (pe_call Ien.ok r7 (by rfl) Ien.g Ien.kp Ien.b .nil passF (pa_cons (pe_call Dep.ok r5 (by rfl) Dep.g Dep.kp Dep.b .nil passF (pa_cons (pe_slice (sl_D (P := P)) (pv 3) po_none (po_some (pv 4))) pa_nil)) (pa_cons (pe_slice (sl_D (P := P)) (pv 3) (po_some (pv 4)) po_none) pa_nil))))) (pw_or1 (pt_not (pt_val (pe_prr (L := L) (P := P) Prr hgd r10 (by rfl) (pa_cons (pv 2) (pa_cons (pe_slice (sl_D (P := P)) (pv 3) po_none (po_some (pv 4))) pa_nil))))))))) (pss_one (ps_ret pe_bl)) pss_nil)
        (pss_cons (ps_set (i := 5) scLaw.nd rfl (.inl rfl) (pe_call Tak.ok r1 (by rfl) Tak.g Tak.kp Tak.b .nil pass0 (pa_cons (pv 2) (pa_cons pe_int pa_nil))))
        (pss_cons (ps_if (PW.pt (pw_or (pt_cmpR op_ne (pe_callB (call_reprA hgd hu) (by rfl) T.repr (by decide +kernel) (pa_cons (pe_lst (pa_cons (pe_call Clo.ok r3 (by rfl) Clo.g Clo.kp Clo.b .nil passF (pa_cons (pv 5) pa_nil)) (pa_cons (pe_callK0 Clo.ok r3 (by rfl) Clo.g Clo.kp Clo.kb passF (pk_cons (pv 5) pk_nil)) pa_nil))) pa_nil)) (pe_callB (call_reprA hgd hu) (by rfl) T.repr (by decide +kernel) (pa_cons (pe_op op_rep (pe_lst (pa_cons (pe_op (op_repD (P := P)) (pe_tup (pa_cons (pe_tup (pa_cons pe_str pa_nil)) pa_nil)) (pv 5)) pa_nil)) pe_int) pa_nil)) (nomark _)) (pw_or1 (pt_not (pt_val (pe_call Ien.ok r7 (by rfl) Ien.g Ien.kp Ien.b .nil passF (pa_cons (pv 5) (pa_cons (pe_call Clo.ok r3 (by rfl) Clo.g Clo.kp Clo.b .nil passF (pa_cons (pv 5) pa_nil)) pa_nil)))))))) (pss_one (ps_ret pe_bl)) pss_nil)
        (pss_cons (ps_set (i := 7) scLaw.nd rfl (.inr rfl) (pe_call Pck.ok r2 (by rfl) Pck.g Pck.kp Pck.b .nil pass0 (pa_cons (pv 2) (pa_cons (pe_lst (pa_cons pe_non (pa_cons (pe_op op_sub pe_int pe_int) (pa_cons pe_bl (pa_cons pe_str (pa_cons (pe_tup pa_nil) pa_nil)))))) pa_nil))))
        (pss_cons (ps_set (i := 6) scLaw.nd rfl (.inl rfl) (pe_lst (pa_cons (pe_lamA (L := L) (P := P) (N := ["odd"]) (fr := ["odd"]) (js := [7]) (k := 7) (t := t9 K P CS CR) TB rfl (by exact hm) (by exact hu2) hP rfl
          ⟨⟨rfl, rfl, rfl, by decide +kernel, rfl, by decide +kernel, by decide +kernel, by decide +kernel, by decide +kernel⟩, free_by (sc := defScope sLaw) (by decide +kernel), by decide +kernel, rfl, fun _ _ pm _ ctv => rfl,
            fun c f A outer s1 H1 E hr => pe_call Cen.ok (hr.mono (by decide)) (by rfl) Cen.g Cen.kp Cen.b .nil (passN (takes_of rfl rfl rfl rfl) fun _ _ _ _ h => h) (pa_cons (pv 0) (pa_cons pe_non pa_nil))⟩) pa_nil)))
        (pss_cons (ps_expr (pe_bm PySem.F.plainAttrs_list PySem.F.slot_list_append PySem.F.type_list_append mt_append (pv 6) (pa_cons (pe_lamA (L := L) (P := P) (N := ["odd"]) (fr := ["odd"]) (js := [7]) (k := 7) (t := t10 K P CR) TB rfl (by exact hm) (by exact hu2) hP rfl
          ⟨⟨rfl, rfl, rfl, by decide +kernel, rfl, by decide +kernel, by decide +kernel, by decide +kernel, by decide +kernel⟩, free_by (sc := defScope sLaw) (by decide +kernel), by decide +kernel, rfl, fun _ _ pm _ ctv => rfl,
            fun c f A outer s1 H1 E hr => pe_call Ien.ok (hr.mono (by decide)) (by rfl) Ien.g Ien.kp Ien.b .nil (passN (takes_of rfl rfl rfl rfl) fun _ _ _ _ h => h) (pa_cons (pv 0) (pa_cons pe_non pa_nil))⟩) pa_nil)))
        (pss_cons (ps_expr (pe_bm PySem.F.plainAttrs_list PySem.F.slot_list_append PySem.F.type_list_append mt_append (pv 6) (pa_cons (pe_lamA (L := L) (P := P) (N := ["odd"]) (fr := ["odd"]) (js := [7]) (k := 7) (t := t11 K P CR) TB rfl (by exact hm) (by exact hu2) hP rfl
          ⟨⟨rfl, rfl, rfl, by decide +kernel, rfl, by decide +kernel, by decide +kernel, by decide +kernel, by decide +kernel⟩, free_by (sc := defScope sLaw) (by decide +kernel), by decide +kernel, rfl, fun _ _ pm _ ctv => rfl,
            fun c f A outer s1 H1 E hr => pe_call Clo.ok (hr.mono (by decide)) (by rfl) Clo.g Clo.kp Clo.b .nil (passN (takes_of rfl rfl rfl rfl) fun _ _ _ _ h => h) (pa_cons (pv 0) pa_nil)⟩) pa_nil)))
        (pss_one (ps_if (pt_cmpR (op_neD hu) (pe_lcF (own := [("ask", 8)]) (g := gName 8) (tt := tAskC (cxOf CX0 Pg w K mg base nLaw "law" (defScope sLaw) f (.ref c) A outer s H E) K P CS CR) (te := fun _ => tVar 8) rfl scLaw.nd (pi_list (pv 6)) (blkOk_by (N := nLaw) (sc := defScope sLaw) (by decide +kernel)) (fun _ _ _ _ _ => pg_name (i := 8) scLaw.nd rfl (Or.inl rfl))
            (fun pins σ s0 H0 Ca cl fp I0 hfp => pts_one (show PT _ _ (tAskC (cxOf CX0 Pg w K mg base nLaw "law" (defScope sLaw) f (.ref c) A outer s H E) K P CS CR σ) from pt_cmpR (op_neD hu) (pe_askB Hrd I0 hfp hgd r9 (by rfl) (pa_cons (pv 8) pa_nil)) (pe_tup (pa_cons pe_str (pa_cons (pe_callB (call_reprA hgd hu) (by rfl) T.repr (by decide +kernel) (pa_cons (pv 7) pa_nil)) (pa_cons pe_bl pa_nil)))) (nomark _)))
            (fun _ _ _ _ _ _ _ _ _ => pv 8)) (pe_lst pa_nil) (nomark _)) (pss_one (ps_ret pe_bl)) pss_nil))))))))))))))
      (pss_one (ps_ret pe_bl)), ?_⟩
    obtain ⟨N, eN, N4⟩ : ∃ N : Nat, (if (if (10 : Int) < ((ns.map V.int).length : Int) then (10 : Int) else ((ns.map V.int).length : Int)) > (4 : Int) then (if (10 : Int) < ((ns.map V.int).length : Int) then (10 : Int) else ((ns.map V.int).length : Int)) else (4 : Int)) = (N : Int) ∧ N ≤ 10 := by
      refine ⟨(if (if (10 : Int) < ((ns.map V.int).length : Int) then (10 : Int) else ((ns.map V.int).length : Int)) > (4 : Int) then (if (10 : Int) < ((ns.map V.int).length : Int) then (10 : Int) else ((ns.map V.int).length : Int)) else (4 : Int)).toNat, ?_, ?_⟩ <;> (repeat' split) <;> omega
    refine ⟨_, rfl, a, _, rfl, .inl hS, _, _, rfl, _, _, rfl, _, rfl, ?_⟩
    rw [eN]
    refine ⟨by omega, by omega, for_range (lo := 0) (n := N) (fun i σ H' => (∃ v1 v2 v3 v4 v5 v6 v7 v8 : Option V, σ = [some (.ref a), v1, v2, v3, v4, v5, v6, v7, v8]) ∧ Lv L P H' ∧ SqL K H' a (ns.map V.int)) ⟨⟨none, none, none, none, none, none, none, none, rfl⟩, lvH, hS⟩ ?_ ?_⟩
    rotate_left
    · rintro σ G ⟨⟨v1, v2, v3, v4, v5, v6, v7, v8, rfl⟩, _⟩
      exact k _
    rintro i σ H0 hi ⟨⟨v1, v2, v3, v4, v5, v6, v7, v8, rfl⟩, lv0, hS0⟩
    rw [Int.zero_add]
    -- box = ..
    refine ⟨_, rfl, _, rfl, lv0.t, a, ns, i, rfl, hS0, hlen, by omega, fun b H1 s1 b0 bP hbx => ?_⟩
    have sG1 := s1.del b0 bP
    have m1 := Sm.lv ap lv0 sG1
    have hS1 := sG1.lst lv0.t hS0
    obtain ⟨g, s0, eb, gb⟩ := hbx
    have bx1 : BxG (L2.del H1 b) b H1 := ⟨del_same, g, s0, (del_back eb).symm, gb⟩
    -- the value
    refine ⟨_, rfl, _, rfl, _, b, rfl, m1.2.t, bx1, fun v D G2 H2 s2 bx2 d2 row2 => ?_⟩
    have m2 := Sm.lv ap m1.2 s2
    refine ⟨G2, b, v, D, rfl, m2.2, bx2, d2, row2, fun G3 H3 m3 bx3 => ⟨_, rfl, iteF ?_⟩⟩
    -- the stream
    refine ⟨_, rfl, G3, b, 3, rfl, by decide, m3.2.t, bx3, fun ds v4' G4 H4 oks l3 hi3 s4 bx4 d4 => ?_⟩
    have m4 := Sm.lv ap m3.2 s4
    have lv4 := bx4.lv ap m4.2
    have slen : (sgS ds).length ≤ 1000 := by
      have q1 := sgS_len ds oks
      have q2 : sgB (hiS ds) ≤ sgB 3 := sgB_mono hi3
      have q3 : ds.length * sgB (hiS ds) ≤ 3 * sgB 3 := Nat.mul_le_mul l3 q2
      have q4 : 3 * sgB 3 ≤ 1000 := by decide
      omega
    refine ⟨v4', ds, rfl, lv4.t, Dp.xt bx4.sub d4, by omega, slen, fun v5 H5 s5 d5 => ?_⟩
    obtain ⟨bx5, m5⟩ := bx4.smv ap m4.2 s5
    have sgi := sgi_S ds oks
    obtain ⟨es, ees⟩ : ∃ es, es = sgS ds := ⟨_, rfl⟩
    have bal : Bal es := by rw [ees]; exact bal_S ds
    rw [← ees] at d5 sgi slen
    have sgs : ∀ d ∈ es, sgnD d = true := fun d hd => (sgi_ok (sgi d hd)).1
    obtain ⟨_, g5, s05, e5, _⟩ := bx5
    have hb5 : H5 b = some (.lst [.int g5, .int s05]) := by rw [e5, upd_same]
    have bx5 := (bx4.smv ap m4.2 s5).1
    have dG5 := sgi_del hb5 sgi d5
    obtain ⟨q5, ys, rfl, hq5, hys5⟩ := dp_tup dG5
    have ly5 : ys.length = es.length := dpa_len hys5
    -- at = ..
    refine ⟨_, rfl, _, rfl, q5, ys, rfl, .inr (sqt_xt bx5.sub hq5), _, _, rfl, rfl, _, b, _, rfl, bx5, by omega, by omega, fun at_ H6 hat bx6 => ?_⟩
    have hat2 : at_ ≤ es.length := by omega
    obtain ⟨c1, c2, c3⟩ := cut_lv bal sgs hat2
    have lv6 := bx6.lv ap m5.2
    have d6 : Dp K H6 (.ref q5) (.tuple es) := Dp.xt bx6.sub dG5
    have ok := sgi_okD sgi slen
    have w0 : whD (.tuple es) 0 = none := by
      have := (cut_lv bal sgs (Nat.zero_le _)).2.1
      rw [List.drop_zero, lvA_zero] at this
      exact this
    have sgt : ∀ d ∈ es.take at_, SgI d := fun d hd => sgi d (List.mem_of_mem_take hd)
    have sgd : ∀ d ∈ es.drop at_, SgI d := fun d hd => sgi d (List.mem_of_mem_drop hd)
    have lt : (es.take at_).length ≤ 1000 := by rw [List.length_take]; omega
    have ld : (es.drop at_).length ≤ 1000 := by rw [List.length_drop]; omega
    refine ⟨_, rfl, lv6.t, _, ⟨_, .tuple es, rfl, d6, ok, rfl⟩, fun u H7 s7 eu => ⟨_, eu, ?_⟩⟩
    rw [w0]
    refine iteF ?_
    refine ⟨_, rfl, _, rfl, _, rfl, es, Dp.mono lv6.t s7 d6, s7.2, at_, hat2, .inl ⟨rfl, rfl, fun v8 H8 s8 d8 => ?_⟩⟩
    refine ⟨s8.2, v8, _, rfl, d8, sgi_okD sgt lt, ?_⟩
    rw [c1]
    intro H9 s9
    have s79 := s7.trans (s8.trans s9)
    refine ⟨_, rfl, _, rfl, _, rfl, es, Dp.mono lv6.t s79 d6, s9.2, at_, hat2, .inr ⟨rfl, rfl, fun v10 H10 s10 d10 => ?_⟩⟩
    have s710 := s79.trans s10
    refine ⟨s10.2, _, v10, .int (lvA es at_), .tuple (es.drop at_), rfl, .int _, d10, sgi_okD sgd ld, fun z => absurd c3 (of_decide_eq_false (p := lvA es at_ ≥ 0) z), fun n' e' _ H11 s11 => ?_⟩
    cases e'
    rw [c2]
    refine ⟨_, rfl, iteF ?_⟩
    have s711 := s710.trans s11
    refine ⟨_, rfl, _, rfl, _, rfl, _, rfl, es, Dp.mono lv6.t s711 d6, s11.2, at_, hat2, .inl ⟨rfl, rfl, fun v12 H12 s12 d12 => ?_⟩⟩
    obtain ⟨bx12, m12⟩ := bx6.smv ap m5.2 (s711.trans s12)
    obtain ⟨_, g12, s012, e12, _⟩ := bx12
    have hb12 : H12 b = some (.lst [.int g12, .int s012]) := by rw [e12, upd_same]
    refine ⟨_, b, v12, es.take at_, rfl, m12.2, (bx6.smv ap m5.2 (s711.trans s12)).1, sgi_del hb12 sgt d12, sgi_pl sgt lt ⟨_, c1⟩, fun G13 H13 m13 bx13 => ⟨_, rfl, iteF ?_⟩⟩
    -- many = ..
    refine ⟨_, rfl, G13, b, 5, rfl, bx13, by decide, by decide, fun n H14 hn bx14 => ?_⟩
    have lv14 := bx14.lv ap m13.2
    have n5 : n ≤ 1000 := by omega
    have nn : ∀ {a : Prop}, numD (.int (n : Nat)) = false → a := fun z => absurd (show (n : Int) ≥ 0 by omega) (of_decide_eq_false (p := (n : Int) ≥ 0) z)
    refine ⟨_, rfl, lv14.t, _, .int (n : Nat), rfl, .int _, nn, fun n' e' => ?_⟩
    obtain rfl : n = n' := by
      have := PyData.int.inj e'
      omega
    refine ⟨n5, fun v15 H15 s15 d15 => ?_⟩
    refine ⟨_, rfl, s15.2, _, .int (n : Nat), rfl, .int _, nn, fun n' e' => ?_⟩
    obtain rfl : n = n' := by
      have := PyData.int.inj e'
      omega
    refine ⟨n5, fun v16 H16 s16 d16 => ⟨(by show 2 ≤ sizeLine; decide), fun m17 hm17 => ?_⟩⟩
    have s17n := Sm.new s16.2 hm17 (o := .lst [v15, v16])
    have s147 := s15.trans (s16.trans s17n)
    have g1 : GD 2 (5 * 27) (closD n) := gd_tup (h := 1) (W := 26) (n := 5) (fun d hd => by
      rw [(List.mem_replicate.mp hd).2]
      exact gd_mono (gd_tup (h := 0) (W := 12) (n := 1) (fun x hx => by
        rw [List.mem_singleton.mp hx]
        exact gd_leaf (by decide +kernel)) (by decide)) (by decide) (by decide)) (by rw [List.length_replicate]; omega)
    have rok : repOk (.list [closD n, closD n]) := rep_gd (h := 3) (W := 2 * (5 * 27 + 1)) (gd_lst (n := 2) (fun x hx => by
      rcases List.mem_cons.mp hx with rfl | hx
      · exact g1
      · rw [List.mem_singleton.mp hx]
        exact g1) (by show 2 ≤ 2; decide)) (by decide) (by decide) rfl
    refine ⟨_, .list [closD n, closD n], rfl, .lst (.inl (.inl upd_same)) (.cons (Dp.mono s15.2 (s16.trans s17n) d15) (.cons (Dp.mono s16.2 s17n d16) .nil)), rok, ?_⟩
    refine ⟨(by show 1 ≤ sizeLine; decide), fun p18 hp18 => ⟨(by show 1 ≤ sizeLine; decide), fun p19 hp19 => ?_⟩⟩
    have s18n := Sm.new s147.2 hp18 (o := .tup [.str "close"])
    have s19n := Sm.new s18n.2 hp19 (o := .tup [.ref p18])
    have s149 := s147.trans (s18n.trans s19n)
    have one : Dp K (upd (upd (upd H16 m17 (.lst [v15, v16])) p18 (.tup [.str "close"])) p19 (.tup [.ref p18])) (.ref p18) (.tuple [.str "close"]) := Dp.mono s18n.2 s19n (.tup (.inl (.inl upd_same)) (.cons (.str _) .nil))
    refine ⟨_, rfl, .tuple [.str "close"], n, .tup (.inl (.inl upd_same)) (.cons one .nil), rfl, n5, s19n.2, fun v20 H20 s20 d20 => ?_⟩
    refine ⟨(by show 1 ≤ sizeLine; decide), fun p21 hp21 => ?_⟩
    have s21n := Sm.new s20.2 hp21 (o := .lst [v20])
    refine ⟨p21, 2, [v20], rfl, rfl, upd_same, by decide, by decide, (by show 2 ≤ sizeLine; decide), fun p22 hp22 => ?_⟩
    have s22n := Sm.new s21n.2 hp22 (o := .lst [v20, v20])
    have d22 := Dp.mono s20.2 (s21n.trans s22n) d20
    refine ⟨.ref p22, .list [closD n, closD n], rfl, .lst (.inl (.inl upd_same)) (.cons d22 (.cons d22 .nil)), rok, rfl, _, rfl, iteNS rfl ?_⟩
    refine ⟨_, rfl, _, rfl, s22n.2, _, .int (n : Nat), rfl, .int _, nn, fun n' e' => ?_⟩
    obtain rfl : n = n' := by
      have := PyData.int.inj e'
      omega
    obtain ⟨okc, wc⟩ := clos_ok n5
    refine ⟨n5, fun v23 H23 s23 d23 => ⟨s23.2, _, v23, .int (n : Nat), closD n, rfl, .int _, d23, okc, nn, fun n'' e'' _ H24 s24 => ?_⟩⟩
    cases e''
    rw [wc]
    refine ⟨_, rfl, iteF ?_⟩
    have s1424 := s147.trans ((s18n.trans s19n).trans (s20.trans ((s21n.trans s22n).trans (s23.trans s24))))
    obtain ⟨bx24, m24⟩ := bx14.smv ap m13.2 s1424
    -- odd = ..
    refine ⟨_, rfl, _, _, rfl, rfl, Nat.zero_le _, fun p25 hp25 => ⟨(by show 5 ≤ sizeLine; decide), fun p26 hp26 => ?_⟩⟩
    obtain ⟨np25, bx25⟩ := bx24.new (o := .tup []) hp25
    have m25 := Mv.new ap m24.2 np25 (o := .tup [])
    obtain ⟨np26, bx26⟩ := bx25.new (o := .lst [.non, .int (0 - 1), .bl true, .str "0", .ref p25]) hp26
    have m26 := Mv.new ap m25.2 np26 (o := .lst [.non, .int (0 - 1), .bl true, .str "0", .ref p25])
    refine ⟨_, b, p26, _, rfl, bx26, .inl (.inl upd_same), (by show 0 < 5; decide), (by show 5 < 1000; decide), fun jj vv H27 hjj bx27 => ?_⟩
    have d25 : SqT K (upd (upd (L2.del H24 b) p25 (.tup [])) p26 (.lst [.non, .int (0 - 1), .bl true, .str "0", .ref p25])) p25 [] := sqt_ext m26.1 (.inl (.inl upd_same))
    obtain ⟨U, hU, dU⟩ : ∃ U, U ∈ [PyData.none, .int (-1), .bool true, .str "0", .tuple []] ∧ Dp K (upd (upd (L2.del H24 b) p25 (.tup [])) p26 (.lst [.non, .int (0 - 1), .bl true, .str "0", .ref p25])) vv U := by
      match jj, hjj with
      | 0, h => cases h; exact ⟨.none, by simp, .non⟩
      | 1, h => cases h; exact ⟨.int (-1), by simp, .int _⟩
      | 2, h => cases h; exact ⟨.bool true, by simp, .bl _⟩
      | 3, h => cases h; exact ⟨.str "0", by simp, .str _⟩
      | 4, h => cases h; exact ⟨.tuple [], by simp, .tup d25 .nil⟩
    obtain ⟨rU, oU, nU⟩ := odd5 hU
    have lv27 := bx27.lv ap m26.2
    have dU27 := Dp.xt bx27.sub dU
    have hS27 : SqL K H27 a (ns.map V.int) := sql_xt bx27.sub (sql_ext m26.1 (sql_ext m25.1 (sql_ext m24.1 (sql_ext m13.1 (sql_ext m12.1 (sql_ext m5.1 (sql_ext m4.1 (sql_ext m3.1 (sql_ext m2.1 hS1)))))))))
    -- asks = ..
    refine ⟨lv27, fun f1 H28 m28 _ _ la1 => ⟨(by show 1 ≤ sizeLine; decide), fun q hq => ?_⟩⟩
    refine app_ask ap m28.2 hq rfl (by show 1 < 100; decide) fun f2 G29 m29 n29 la2 => ?_
    refine app_ask ap m29.2 n29 rfl (by show 2 < 100; decide) fun f3 G30 m30 n30 la3 => ?_
    have mq := Mv.new ap m30.2 n30 (o := .lst ([V.ref f1] ++ [.ref f2] ++ [.ref f3]))
    obtain ⟨Hq, eHq⟩ : ∃ Hq, Hq = upd G30 q (.lst ([V.ref f1] ++ [.ref f2] ++ [.ref f3])) := ⟨_, rfl⟩
    have hqq : Hq q = some (.lst ([V.ref f1] ++ [.ref f2] ++ [.ref f3])) := by rw [eHq, upd_same]
    rw [← eHq] at mq ⊢
    have M2 := m30.trans mq
    have M1 := m29.trans M2
    have la1 := la1.ext M1.1
    have la2 := la2.ext M2.1
    have la3 := la3.ext mq.1
    have mH := m28.trans M1
    have tq := mH.2.t
    have dUq := Dp.ext mH.1 dU27
    have er : ∀ {H1 : Hp} {E : XK} {Q' : VK}, LamX.ExtN Hq H1 → spAsk K P (.err CR U) [] H1 Q' E → Rs P CR H1 E vv := fun e sp d H' s x => sp.2.2 d _ H' s x (Dp.mono sp.2.1 s (Dp.ext e dUq))
    have asks : ∀ x ∈ [V.ref f1] ++ [.ref f2] ++ [.ref f3], ∃ (fx : Addr) (N : List Str) (t : XK → TE), x = .ref fx ∧ LamAt (cxOf CX0 Pg w K mg base nLaw "law" (defScope sLaw) f (.ref c) A outer s H E) N [7] 7 t fx Hq ∧ ∀ H1 Q' E, LamX.ExtN Hq H1 → spAsk K P (.err CR U) [] H1 Q' E → t E (NdefX.startF N [] [some vv]) H1 Q' := by
      intro x hx
      have okn : OkD .none := ⟨rfl, rfl, Nat.zero_le _⟩
      simp only [List.mem_append, List.mem_cons, List.not_mem_nil, or_false] at hx
      rcases hx with (rfl | rfl) | rfl
      · exact ⟨f1, _, _, rfl, la1, fun H1 Q' E e sp => ⟨_, rfl, sp.2.1, vv, .non, U, .none, rfl, Dp.ext e dUq, .non, okn, fun _ => er e sp, fun n' e' n0 => num_no nU e' n0⟩⟩
      · exact ⟨f2, _, _, rfl, la2, fun H1 Q' E e sp => ⟨_, rfl, sp.2.1, vv, .non, U, .none, rfl, Dp.ext e dUq, .non, okn, fun _ => er e sp, fun n' e' n0 => num_no nU e' n0⟩⟩
      · exact ⟨f3, _, _, rfl, la3, fun H1 Q' E e sp => ⟨_, rfl, sp.2.1, vv, U, rfl, Dp.ext e dUq, fun _ => er e sp, fun n' e' => num_no nU e' (by omega)⟩⟩
    refine ⟨_, rfl, q, rfl, ⟨_, SqL.of hqq⟩, fun Dc hDc => ?_⟩
    have nP := nPt tq hDc
    refine lc_list (xs := [V.ref f1] ++ [.ref f2] ++ [.ref f3]) (fun j H' => Sm P Hq H' ∧ H' Dc = some (.lst [])) ⟨Sm.new tq hDc, upd_same⟩ (fun j H' _ s => SqL.of (s.1.atL tq hqq)) ?_ ?_
    · rintro j x H' hx ⟨z1, hc⟩
      obtain ⟨fx, N', t, rfl, la, bod⟩ := asks x (List.mem_of_getElem? hx)
      have eG : LamX.ExtN Hq H' := (Sm.lv ap mH.2 z1).1
      refine ⟨rfl, _, rfl, z1.2, fx, .err CR U, hdD "refused" U, N', [7], t, Hq, rfl, la, eG, .refused _ rU, bod, fun v2 H2' z2 d2' => ?_⟩
      have z12 := z1.trans z2
      refine ⟨_, rfl, _, U, rfl, Dp.mono tq z12 dUq, rU, (by show 3 ≤ sizeLine; decide), fun m hm => ?_⟩
      have z3n := Sm.new z2.2 hm (o := .tup [.str "refused", .str (repD U), .bl true])
      refine ⟨hdD "refused" U, hdD "refused" U, Dp.mono z2.2 z3n d2', .tup (.inl (.inl upd_same)) (.cons (.str _) (.cons (.str _) (.cons (.bl _) .nil))), hd_sh (by decide +kernel) oU, hd_sh (by decide +kernel) oU, _, rfl, ?_⟩
      rw [hd_eqv]
      exact iteF ⟨z12.trans z3n, (z2.trans z3n).atL z1.2 hc⟩
    · rintro H' ⟨z1, hc⟩
      refine ⟨Nat.zero_le _, fun e he => ?_⟩
      have z2 := z1.trans (Sm.new z1.2 he (o := .lst []))
      refine ne_nil (SqL.of ((Sm.new z1.2 he (o := .lst [])).atL z1.2 hc)) .nil (by decide +kernel) upd_same ⟨_, rfl, iteF ?_⟩
      exact ⟨⟨_, _, _, _, _, _, _, _, rfl⟩, (Sm.lv ap mH.2 z2).2, z2.lst tq (sql_ext mH.1 hS27)⟩
end
end K6

set_option Elab.async false
set_option linter.all false
set_option maxRecDepth 100000
set_option maxHeartbeats 4000000
/-! the end of a law whose defs have several tables -/
namespace SoG3
open PySem PySem.Spec PyProof.Rows L2 So SoG
noncomputable def h0 (K : PySem.W.Frag) (a : Addr) (Ts : List Addr) (o : Obj) (xs : List V) : Hp := fun b =>
  if b ∈ Ts then some (.tbl #[]) else if b = a ∧ K.lookup a = none then some (.frz o (.lst xs)) else none
section
variable {K : PySem.W.Frag} {a : Addr} {Ts : List Addr} {o : Obj} {xs : List V}
theorem h0_T {T : Addr} (m : T ∈ Ts) : h0 K a Ts o xs T = some (.tbl #[]) := if_pos m
theorem h0_a (n : a ∉ Ts) (h : K.lookup a = none) : h0 K a Ts o xs a = some (.frz o (.lst xs)) := (if_neg n).trans (if_pos ⟨rfl, h⟩)
theorem h0_one {b : Addr} {u : HO} (h : h0 K a Ts o xs b = some u) : (b ∈ Ts ∧ u = .tbl #[]) ∨ (b ∉ Ts ∧ b = a ∧ K.lookup a = none ∧ u = .frz o (.lst xs)) := by
  by_cases e : b ∈ Ts
  · exact .inl ⟨e, Option.some.inj (((if_pos e).symm.trans h).symm)⟩
  · have h' := (if_neg e).symm.trans h
    by_cases e2 : b = a ∧ K.lookup a = none
    · exact .inr ⟨e, e2.1, e2.2, Option.some.inj ((if_pos e2).symm.trans h').symm⟩
    · exact nomatch (if_neg e2).symm.trans h'
end
variable {Pg : Program} {w : World} {K : PySem.W.Frag} {mg mb : Str → Option Value} {fa a : Addr} {cs : List (Addr × Addr)} {fd : FuncData} {sp : Sp} {s : Shared} {vs : List Value} {ns : List Int}
/-- the law is called: what GOk says of it is the law's truth -/
theorem law_end (KX : K.In s.heap) (hG : s.heap.Ns mainGlobals mg) (hB : s.heap.Ns builtinsNs mb) (hBB : ∀ x : Str, x ≠ "__name__" → mb x = bootBuiltins x) (hL : s.heap.NoLimit) (hg : s.gens = #[])
    (tT : ∀ p ∈ cs, s.heap.get? p.2 = some { cls := .none, data := .fields #[] }) (nT : ∀ p ∈ cs, K.lookup p.2 = none) (Cd : ∀ p ∈ cs, PySem.W.CodeHd s.heap p.1 p.2)
    (bm : ∃ (m : Addr) (ob : Obj), mg "__builtins__" = some (.ref m) ∧ m ≠ builtinsNs ∧ s.heap.get? m = some ob ∧ ob.cls = .type "module" ∧ ob.dict = some builtinsNs ∧ ob.data = .plain)
    (ha : s.heap.get? a = some { cls := .type "list", data := .seq vs.toArray }) (hi : IntsAre vs ns) (hl : ns.length ≤ sizeLine)
    (F : ∀ base : Heap, K.In base → base.Ns mainGlobals mg → (∀ p ∈ cs, GxR.TabB base mg p.1 p.2) → GOk Pg w K mg base fa fd sp) (hb : ∀ (s : Shared) (u : Value), BindsTo s fd ⟨[u], []⟩ [("script", u)])
    (hsp : ∀ H : Hp, (∀ p ∈ cs, H p.2 = some (.tbl #[])) → SqL K H a (ns.map V.int) → sp [.ref a] H (fun v _ => v = .bl true) fun _ _ _ => False) :
    codeAny (model Pg w) callerA (.call (.ref fa) ⟨[.ref a], []⟩) (fun r s' => r = .ok (.ret (.bool true)) ∧ OldK s.heap s'.heap ∧ s'.os = s.os ∧ AllBare s'.gens) s := by
  have vi := vals_ints hi
  have lv := hi.length
  have memT : ∀ {b : Addr}, b ∈ cs.map (·.2) → ∃ p ∈ cs, p.2 = b := fun m => List.mem_map.mp m
  have tT' : ∀ {b : Addr}, b ∈ cs.map (·.2) → s.heap.get? b = some { cls := .none, data := .fields #[] } := fun m => by
    obtain ⟨p, hp, rfl⟩ := memT m
    exact tT p hp
  have nT' : ∀ {b : Addr}, b ∈ cs.map (·.2) → K.lookup b = none := fun m => by
    obtain ⟨p, hp, rfl⟩ := memT m
    exact nT p hp
  have aT : a ∉ cs.map (·.2) := fun z => by
    rw [tT' z] at ha
    exact nomatch congrArg Obj.data (Option.some.inj ha)
  obtain ⟨H, hH⟩ : ∃ H, H = h0 K a (cs.map (·.2)) { cls := .type "list", data := .seq vs.toArray } (ns.map V.int) := ⟨_, rfl⟩
  have free : ∀ {b : Addr} {ob : Obj}, s.heap.get? b = some ob → (∀ us n, ob.data ≠ .seq us n) → ob.data ≠ .fields #[] → H b = none := by
    intro b ob e n1 n2
    cases q : H b with
    | none => rfl
    | some u =>
      rw [hH] at q
      rcases h0_one q with ⟨m, _⟩ | ⟨_, rfl, _, _⟩
      · rw [tT' m] at e
        cases e
        exact absurd rfl n2
      · rw [ha] at e
        cases e
        exact absurd rfl (n1 _ _)
  have get : ∀ {b : Addr} {ob : Obj}, s.heap.get? b = some ob → H b = none → (hidT s.heap H).get? b = some ob := hidT_get
  have dic : ∀ {b : Addr} {ob : Obj} {es : Array DictEntry} {n : Nat}, s.heap.get? b = some ob → ob.data = .dict es n → (hidT s.heap H).get? b = some ob := fun e d =>
    get e (free e (fun _ _ z => nomatch d.symm.trans z) fun z => nomatch d.symm.trans z)
  have nsp : ∀ {b : Addr} {m : Str → Option Value}, s.heap.Ns b m → (hidT s.heap H).Ns b m := by
    rintro b m ⟨ob, es, n, e, d, rest⟩
    exact ⟨ob, es, n, dic e d, d, rest⟩
  have KH : K.In (hidT s.heap H) := by
    intro b ob e
    refine get (KX b ob e) ?_
    cases q : H b with
    | none => rfl
    | some u =>
      rw [hH] at q
      rcases h0_one q with ⟨m, _⟩ | ⟨_, rfl, na, _⟩
      · rw [nT' m] at e
        cases e
      · rw [na] at e
        cases e
  have tab : ∀ p ∈ cs, GxR.TabB (hidT s.heap H) mg p.1 p.2 := by
    intro p hp
    have tTp := tT p hp
    constructor
    · obtain ⟨ob, us, file, tf, flags, tg, inF, text, tt, e, r1, r2, r3, rest⟩ := Cd p hp
      refine ⟨ob, us, file, tf, flags, tg, inF, text, tt, get e (free e (fun _ _ z => nomatch r2.symm.trans z) fun z => ?_), r1, r2, r3, rest⟩
      cases r2.symm.trans z
      exact nomatch r3
    · obtain ⟨m, ob, b1, b2, b3, b4, b5, b6⟩ := bm
      refine ⟨m, ob, b1, b2, fun q => ?_, fun q => ?_, get b3 (free b3 (fun _ _ z => nomatch b6.symm.trans z) fun z => nomatch b6.symm.trans z), b4, b5, b6⟩
      · obtain ⟨_, _, _, e, d, _⟩ := hG
        rw [← q, b3] at e
        cases e
        exact nomatch b6.symm.trans d
      · rw [q, tTp] at b3
        cases b3
        exact nomatch b6
    · intro z
      obtain ⟨_, _, _, e, d, _⟩ := hG
      rw [z, tTp] at e
      cases e
      exact nomatch d
  have hok : HOk Pg w H s.heap := by
    intro b u q
    rw [hH] at q
    rcases h0_one q with ⟨m, rfl⟩ | ⟨_, rfl, _, rfl⟩
    · exact tT' m
    · exact ⟨ha, by rw [List.length_map]; exact hl, vs, _, vi, ha⟩
  have sq : SqL K H a (ns.map V.int) := by
    cases q : K.lookup a with
    | none => exact .inl (.inr ⟨_, by rw [hH]; exact h0_a aT q⟩)
    | some ob =>
      have e := KX a ob q
      rw [ha] at e
      cases e
      exact .inr ⟨_, vs.toArray, _, q, rfl, rfl, rfl, by rw [List.size_toArray, lv]; exact hl, by simpa using vi⟩
  have hT : ∀ p ∈ cs, H p.2 = some (.tbl #[]) := fun p hp => by
    rw [hH]
    exact h0_T (List.mem_map.mpr ⟨p, hp, rfl⟩)
  have e0 : Env0 Pg w K mg (hidT s.heap H) callerA [] s H :=
    { frames := rfl
      mod := ⟨KH, nsp hG, ⟨mb, nsp hB, hBB⟩, hL.imp fun _ z => ⟨nsp z.1, z.2⟩⟩
      bs := fun _ _ e => of_hidT e
      bsz := Nat.le_of_eq (hidT_size _ _)
      funs := trivial
      frf := fun _ z => nomatch z
      hok := hok
      bare := .of_eq hg }
  refine codeAny_mono (F _ KH (nsp hG) tab s H (.ref a) (.ref a) _ _ e0 (hb s _) rfl (hsp H hT sq)) fun r s' h => ?_
  match r, h with
  | .ok (.ret u), ⟨v, H', os, bare, un, hok', rv, e⟩ =>
    cases e
    cases (show u = Value.bool true from rv)
    have gT : ∀ p ∈ cs, ∃ more, s'.heap.get? p.2 = some { cls := .none, data := .fields more } := fun p hp => by
      obtain ⟨more, z⟩ := un.tbls p.2 #[] (hT p hp)
      have := hok' p.2 _ z
      rw [Array.empty_append] at this
      exact ⟨more, this⟩
    have key : ∀ b ob, b ∉ cs.map (·.2) → s.heap.get? b = some ob → s'.heap.get? b = some ob := by
      intro b ob n e
      cases q : H b with
      | none => exact un.keep b ob e q (fun z => nomatch z) (fun z => nomatch z)
      | some u =>
        have q' := q
        rw [hH] at q'
        rcases h0_one q' with ⟨m, _⟩ | ⟨_, rfl, _, rfl⟩
        · exact absurd m n
        · rw [ha] at e
          cases e
          exact (hok' _ _ (un.frzs _ _ _ q)).1
    refine ⟨rfl, ⟨fun b ob e => ?_, fun b ob e => ?_⟩, os, bare⟩
    · by_cases n : b ∈ cs.map (·.2)
      · obtain ⟨p, hp, rfl⟩ := memT n
        rw [tT p hp] at e
        cases e
        obtain ⟨more, gp⟩ := gT p hp
        exact .inr (.inl ⟨((Cd p hp).tab (tT p hp)).isCodeTable, rfl, #[], more, rfl, by rw [Array.empty_append]; exact gp⟩)
      · exact .inl (key b ob n e)
    · by_cases n : b ∈ cs.map (·.2)
      · obtain ⟨p, hp, rfl⟩ := memT n
        obtain ⟨more, gp⟩ := gT p hp
        exact ⟨_, gp⟩
      · exact ⟨_, key b ob n e⟩
  | .error e, h => exact h.elim
  | .ok .next, h => exact h.elim
  | .ok .brk, h => exact h.elim
  | .ok .cont, h => exact h.elim
end SoG3

set_option Elab.async false
set_option linter.all false
set_option maxRecDepth 100000
set_option maxHeartbeats 8000000
namespace K6
open PySem PySem.Spec PyProof.Rows L2 So SoFr SoC
theorem tab_mk {K : PySem.W.Frag} {x : Str} {f c P : Addr} {o1 : Value} {o2 : Option Addr} {o3 : Array (Option Value)} {fd : FuncData} {e1 : Value} {e2 : Option Addr} {vs : Array Value} {e3 : Array (Option Value)} (a : PySem.W.nsIn K mainGlobals x = some (some (.ref f))) (l : K.lookup f = some ⟨o1, o2, .func fd, o3⟩) (hc : fd.code = .ref c)
    (lc : K.lookup c = some ⟨e1, e2, .fields vs, e3⟩) (hp : vs[11]? = some (.ref P)) : PySem.W.tabIn K x = some (c, P) := by
  unfold PySem.W.tabIn
  rw [a]
  dsimp only
  rw [l]
  dsimp only
  rw [hc]
  dsimp only
  rw [lc]
  dsimp only
  rw [hp]
theorem exm_self {K : PySem.W.Frag} {S : Addr} (h1 : PySem.W.subIn K (.ref S) (.type "BaseException") = some true) (h2 : PySem.W.isClsIn K S = true) (h3 : PySem.W.typeIn K (.ref S) = some (.type "type")) (h4 : PySem.W.subIn K (.ref S) (.ref S) = some true) :
    PySem.W.exmOne K (.ref S) (.ref S) = some true := by
  have e1 : (PySem.W.subIn K (.ref S) (.type "BaseException") == some true) = true := by rw [h1] <;> rfl
  have e2 : ((PySem.W.clsIn K S).isSome && PySem.W.typeIn K (.ref S) == some (.type "type")) = true := by
    have h2' : (PySem.W.clsIn K S).isSome = true := h2
    rw [h2', h3] <;> rfl
  show (if (PySem.W.subIn K (.ref S) (.type "BaseException") == some true) = true then (if ((PySem.W.clsIn K S).isSome && PySem.W.typeIn K (.ref S) == some (.type "type")) = true then PySem.W.subIn K (.ref S) (.ref S) else none) else none) = some true
  rw [if_pos e1, if_pos e2]
  exact h4
theorem exm_no {K : PySem.W.Frag} {E S : Addr} (h1 : PySem.W.subIn K (.ref S) (.type "BaseException") = some true) (h2 : PySem.W.isClsIn K S = true) (h3 : PySem.W.typeIn K (.ref S) = some (.type "type")) (h4 : PySem.W.subIn K (.ref E) (.ref S) = some false) :
    PySem.W.exmOne K (.ref E) (.ref S) = some false := by
  have e1 : (PySem.W.subIn K (.ref S) (.type "BaseException") == some true) = true := by rw [h1] <;> rfl
  have e2 : ((PySem.W.clsIn K S).isSome && PySem.W.typeIn K (.ref S) == some (.type "type")) = true := by
    have h2' : (PySem.W.clsIn K S).isSome = true := h2
    rw [h2', h3] <;> rfl
  show (if (PySem.W.subIn K (.ref S) (.type "BaseException") == some true) = true then (if ((PySem.W.clsIn K S).isSome && PySem.W.typeIn K (.ref S) == some (.type "type")) = true then PySem.W.subIn K (.ref E) (.ref S) else none) else none) = some false
  rw [if_pos e1, if_pos e2]
  exact h4
theorem gok_of {Pg : Program} {w : World} {K : PySem.W.Frag} {mg : Str → Option Value} {base : Heap} {k : Nat} {f : Addr} {fd : FuncData} {sp : Sp} (F : FnS Pg w K mg base CX0 k f fd ["script"] (fun _ => sp)) (hr : Room k callerA) : SoG.GOk Pg w K mg base f fd sp :=
  fun s H u v Q E e0 hb r q => F.run callerA [] s H ⟨[u], []⟩ [u] [v] Q E hr rfl e0 hb (.cons r .nil) q
def tabL (P2 P3 P4 : Addr) : List (Addr × Str) := [(P2, ("_law_prefix_right" : Str) ++ ".<locals>." ++ "<lambda>"), (P3, ("_law_value_right" : Str) ++ ".<locals>." ++ "<lambda>"), (P4, ("law" : Str) ++ ".<locals>." ++ "<lambda>")]
/-- what is known of the program behind its top -/
def Known (Pg : Program) (w : World) (K : PySem.W.Frag) (mg : Str → Option Value) (fa : Addr) : Prop := ∃ (c1 P1 c2 P2 c3 P3 c4 P4 : Addr) (fd : FuncData), PySem.W.tabIn K "is_label" = some (c1, P1) ∧ K.lookup P1 = none ∧ PySem.W.tabIn K "_law_prefix_right" = some (c2, P2) ∧ K.lookup P2 = none ∧ PySem.W.tabIn K "_law_value_right" = some (c3, P3) ∧ K.lookup P3 = none ∧ PySem.W.tabIn K "law" = some (c4, P4) ∧ K.lookup P4 = none ∧
  (∀ (s : Shared) (u : Value), BindsTo s fd ⟨[u], []⟩ [("script", u)]) ∧
  ∀ base : Heap, K.In base → base.Ns mainGlobals mg → GxR.TabB base mg c1 P1 → GxR.TabB base mg c2 P2 → GxR.TabB base mg c3 P3 → GxR.TabB base mg c4 P4 → SoG.GOk Pg w K mg base fa fd (spLaw K P1 (tabL P2 P3 P4))
theorem all_mk {Pg : Program} {w : World} {K : PySem.W.Frag} {h : Heap} {mg : Str → Option Value} {fa O : Addr} (X : K.In h) (G : h.Ns mainGlobals mg) (hfa : mg "law" = some (.ref fa))
    {f1 f2 f3 f4 f5 f6 f7 f8 f9 f10 f11 f12 f13 f14 f15 f16 f17 f18 f19 f20 f21 f22 f23 f24 f25 f26 f27 f28 f29 f30 f31 f32 q4 P4 q30 P30 q31 P31 q32 P32 : Addr}
    {od1 an1 od2 an2 od3 an3 od4 an4 od5 an5 od6 an6 od7 an7 od8 an8 od9 an9 od10 an10 od11 an11 od12 an12 od13 an13 od14 an14 od15 an15 od16 an16 od17 an17 od18 an18 od19 an19 od20 an20 od21 an21 od22 an22 od23 an23 od24 an24 od25 an25 od26 an26 od27 an27 od28 an28 od29 an29 od30 an30 od31 an31 od32 an32 u4 u30 u31 u32 : Option Addr} {sl1 sl2 sl3 sl4 sl5 sl6 sl7 sl8 sl9 sl10 sl11 sl12 sl13 sl14 sl15 sl16 sl17 sl18 sl19 sl20 sl21 sl22 sl23 sl24 sl25 sl26 sl27 sl28 sl29 sl30 sl31 sl32 x4 x30 x31 x32 : Array (Option Value)} {oc1 kV1 dc1 pm1 ct1 oc2 kV2 dc2 pm2 ct2 oc3 kV3 dc3 pm3 ct3 oc4 kV4 dc4 pm4 ct4 oc5 kV5 dc5 pm5 ct5 oc6 kV6 dc6 pm6 ct6 oc7 kV7 dc7 pm7 ct7 oc8 kV8 dc8 pm8 ct8 oc9 kV9 dc9 pm9 ct9 oc10 kV10 dc10 pm10 ct10 oc11 kV11 dc11 pm11 ct11 oc12 kV12 dc12 pm12 ct12 oc13 kV13 dc13 pm13 ct13 oc14 kV14 dc14 pm14 ct14 oc15 kV15 dc15 pm15 ct15 oc16 kV16 dc16 pm16 ct16 oc17 kV17 dc17 pm17 ct17 oc18 kV18 dc18 pm18 ct18 oc19 kV19 dc19 pm19 ct19 oc20 kV20 dc20 pm20 ct20 oc21 kV21 dc21 pm21 ct21 oc22 kV22 dc22 pm22 ct22 oc23 kV23 dc23 pm23 ct23 oc24 kV24 dc24 pm24 ct24 oc25 kV25 dc25 pm25 ct25 oc26 kV26 dc26 pm26 ct26 oc27 kV27 dc27 pm27 ct27 oc28 kV28 dc28 pm28 ct28 oc29 kV29 dc29 pm29 ct29 oc30 kV30 dc30 pm30 ct30 oc31 kV31 dc31 pm31 ct31 oc32 kV32 dc32 pm32 ct32 cd1 cd2 cd3 cd5 cd6 cd7 cd8 cd9 cd10 cd11 cd12 cd13 cd14 cd15 cd16 cd17 cd18 cd19 cd20 cd21 cd22 cd23 cd24 cd25 cd26 cd27 cd28 cd29 y4 y30 y31 y32 : Value} {vs4 vs30 vs31 vs32 : Array Value} {tL tM tT : Tok}
    (a1 : PySem.W.nsIn K mainGlobals "is_number" = some (some (.ref f1))) (l1 : K.lookup f1 = some ⟨oc1, od1, .func (PySem.W.fnOf "is_number" "is_number" (defArgs sNum) (defBody sNum) (defScope sNum) .none kV1 dc1 pm1 an1 cd1 ct1), sl1⟩) (c1 : PySem.W.codeIn K cd1 "is_number" = true) (k1 : PySem.W.keepIn K (.ref f1) = true)
    (a2 : PySem.W.nsIn K mainGlobals "is_number_below" = some (some (.ref f2))) (l2 : K.lookup f2 = some ⟨oc2, od2, .func (PySem.W.fnOf "is_number_below" "is_number_below" (defArgs sNub) (defBody sNub) (defScope sNub) .none kV2 dc2 pm2 an2 cd2 ct2), sl2⟩) (c2 : PySem.W.codeIn K cd2 "is_number_below" = true) (k2 : PySem.W.keepIn K (.ref f2) = true)
    (a3 : PySem.W.nsIn K mainGlobals "is_sequence" = some (some (.ref f3))) (l3 : K.lookup f3 = some ⟨oc3, od3, .func (PySem.W.fnOf "is_sequence" "is_sequence" (defArgs sSeq) (defBody sSeq) (defScope sSeq) .none kV3 dc3 pm3 an3 cd3 ct3), sl3⟩) (c3 : PySem.W.codeIn K cd3 "is_sequence" = true) (k3 : PySem.W.keepIn K (.ref f3) = true)
    (a4 : PySem.W.nsIn K mainGlobals "is_label" = some (some (.ref f4))) (l4 : K.lookup f4 = some ⟨oc4, od4, .func (PySem.W.fnOf "is_label" "is_label" (defArgs sLab) (defBody sLab) (defScope sLab) .none kV4 dc4 pm4 an4 (.ref q4) ct4), sl4⟩) (c4 : PySem.W.codeIn K (.ref q4) "is_label" = true) (k4 : PySem.W.keepIn K (.ref f4) = true)
    (a5 : PySem.W.nsIn K mainGlobals "is_text" = some (some (.ref f5))) (l5 : K.lookup f5 = some ⟨oc5, od5, .func (PySem.W.fnOf "is_text" "is_text" (defArgs sTxt) (defBody sTxt) (defScope sTxt) .none kV5 dc5 pm5 an5 cd5 ct5), sl5⟩) (c5 : PySem.W.codeIn K cd5 "is_text" = true) (k5 : PySem.W.keepIn K (.ref f5) = true)
    (a6 : PySem.W.nsIn K mainGlobals "_sign_fault" = some (some (.ref f6))) (l6 : K.lookup f6 = some ⟨oc6, od6, .func (PySem.W.fnOf "_sign_fault" "_sign_fault" (defArgs sFau) (defBody sFau) (defScope sFau) .none kV6 dc6 pm6 an6 cd6 ct6), sl6⟩) (c6 : PySem.W.codeIn K cd6 "_sign_fault" = true) (k6 : PySem.W.keepIn K (.ref f6) = true)
    (a7 : PySem.W.nsIn K mainGlobals "is_sign" = some (some (.ref f7))) (l7 : K.lookup f7 = some ⟨oc7, od7, .func (PySem.W.fnOf "is_sign" "is_sign" (defArgs sSgn) (defBody sSgn) (defScope sSgn) .none kV7 dc7 pm7 an7 cd7 ct7), sl7⟩) (c7 : PySem.W.codeIn K cd7 "is_sign" = true) (k7 : PySem.W.keepIn K (.ref f7) = true)
    (a8 : PySem.W.nsIn K mainGlobals "read_levels" = some (some (.ref f8))) (l8 : K.lookup f8 = some ⟨oc8, od8, .func (PySem.W.fnOf "read_levels" "read_levels" (defArgs sRdl) (defBody sRdl) (defScope sRdl) .none kV8 dc8 pm8 an8 cd8 ct8), sl8⟩) (c8 : PySem.W.codeIn K cd8 "read_levels" = true) (k8 : PySem.W.keepIn K (.ref f8) = true)
    (a9 : PySem.W.nsIn K mainGlobals "_step_of" = some (some (.ref f9))) (l9 : K.lookup f9 = some ⟨oc9, od9, .func (PySem.W.fnOf "_step_of" "_step_of" (defArgs sStp) (defBody sStp) (defScope sStp) .none kV9 dc9 pm9 an9 cd9 ct9), sl9⟩) (c9 : PySem.W.codeIn K cd9 "_step_of" = true) (k9 : PySem.W.keepIn K (.ref f9) = true)
    (a10 : PySem.W.nsIn K mainGlobals "_read_whole" = some (some (.ref f10))) (l10 : K.lookup f10 = some ⟨oc10, od10, .func (PySem.W.fnOf "_read_whole" "_read_whole" (defArgs sRwh) (defBody sRwh) (defScope sRwh) .none kV10 dc10 pm10 an10 cd10 ct10), sl10⟩) (c10 : PySem.W.codeIn K cd10 "_read_whole" = true) (k10 : PySem.W.keepIn K (.ref f10) = true)
    (a11 : PySem.W.nsIn K mainGlobals "check_prefix" = some (some (.ref f11))) (l11 : K.lookup f11 = some ⟨oc11, od11, .func (PySem.W.fnOf "check_prefix" "check_prefix" (defArgs sCpf) (defBody sCpf) (defScope sCpf) .none kV11 dc11 pm11 an11 cd11 ct11), sl11⟩) (c11 : PySem.W.codeIn K cd11 "check_prefix" = true) (k11 : PySem.W.keepIn K (.ref f11) = true)
    (a12 : PySem.W.nsIn K mainGlobals "check_stream" = some (some (.ref f12))) (l12 : K.lookup f12 = some ⟨oc12, od12, .func (PySem.W.fnOf "check_stream" "check_stream" (defArgs sCst) (defBody sCst) (defScope sCst) .none kV12 dc12 pm12 an12 cd12 ct12), sl12⟩) (c12 : PySem.W.codeIn K cd12 "check_stream" = true) (k12 : PySem.W.keepIn K (.ref f12) = true)
    (a13 : PySem.W.nsIn K mainGlobals "is_stream" = some (some (.ref f13))) (l13 : K.lookup f13 = some ⟨oc13, od13, .func (PySem.W.fnOf "is_stream" "is_stream" (defArgs sIst) (defBody sIst) (defScope sIst) .none kV13 dc13 pm13 an13 cd13 ct13), sl13⟩) (c13 : PySem.W.codeIn K cd13 "is_stream" = true) (k13 : PySem.W.keepIn K (.ref f13) = true)
    (a14 : PySem.W.nsIn K mainGlobals "check_ending" = some (some (.ref f14))) (l14 : K.lookup f14 = some ⟨oc14, od14, .func (PySem.W.fnOf "check_ending" "check_ending" (defArgs sCen) (defBody sCen) (defScope sCen) .none kV14 dc14 pm14 an14 cd14 ct14), sl14⟩) (c14 : PySem.W.codeIn K cd14 "check_ending" = true) (k14 : PySem.W.keepIn K (.ref f14) = true)
    (a15 : PySem.W.nsIn K mainGlobals "is_ending" = some (some (.ref f15))) (l15 : K.lookup f15 = some ⟨oc15, od15, .func (PySem.W.fnOf "is_ending" "is_ending" (defArgs sIen) (defBody sIen) (defScope sIen) .none kV15 dc15 pm15 an15 cd15 ct15), sl15⟩) (c15 : PySem.W.codeIn K cd15 "is_ending" = true) (k15 : PySem.W.keepIn K (.ref f15) = true)
    (a16 : PySem.W.nsIn K mainGlobals "closing" = some (some (.ref f16))) (l16 : K.lookup f16 = some ⟨oc16, od16, .func (PySem.W.fnOf "closing" "closing" (defArgs sClo) (defBody sClo) (defScope sClo) .none kV16 dc16 pm16 an16 cd16 ct16), sl16⟩) (c16 : PySem.W.codeIn K cd16 "closing" = true) (k16 : PySem.W.keepIn K (.ref f16) = true)
    (a17 : PySem.W.nsIn K mainGlobals "depth" = some (some (.ref f17))) (l17 : K.lookup f17 = some ⟨oc17, od17, .func (PySem.W.fnOf "depth" "depth" (defArgs sDep) (defBody sDep) (defScope sDep) .none kV17 dc17 pm17 an17 cd17 ct17), sl17⟩) (c17 : PySem.W.codeIn K cd17 "depth" = true) (k17 : PySem.W.keepIn K (.ref f17) = true)
    (a18 : PySem.W.nsIn K mainGlobals "depths" = some (some (.ref f18))) (l18 : K.lookup f18 = some ⟨oc18, od18, .func (PySem.W.fnOf "depths" "depths" (defArgs sDps) (defBody sDps) (defScope sDps) .none kV18 dc18 pm18 an18 cd18 ct18), sl18⟩) (c18 : PySem.W.codeIn K cd18 "depths" = true) (k18 : PySem.W.keepIn K (.ref f18) = true)
    (a19 : PySem.W.nsIn K mainGlobals "open_labels" = some (some (.ref f19))) (l19 : K.lookup f19 = some ⟨oc19, od19, .func (PySem.W.fnOf "open_labels" "open_labels" (defArgs sOpl) (defBody sOpl) (defScope sOpl) .none kV19 dc19 pm19 an19 cd19 ct19), sl19⟩) (c19 : PySem.W.codeIn K cd19 "open_labels" = true) (k19 : PySem.W.keepIn K (.ref f19) = true)
    (a20 : PySem.W.nsIn K mainGlobals "node_behind" = some (some (.ref f20))) (l20 : K.lookup f20 = some ⟨oc20, od20, .func (PySem.W.fnOf "node_behind" "node_behind" (defArgs sNbh) (defBody sNbh) (defScope sNbh) .none kV20 dc20 pm20 an20 cd20 ct20), sl20⟩) (c20 : PySem.W.codeIn K cd20 "node_behind" = true) (k20 : PySem.W.keepIn K (.ref f20) = true)
    (a21 : PySem.W.nsIn K mainGlobals "_law_box" = some (some (.ref f21))) (l21 : K.lookup f21 = some ⟨oc21, od21, .func (PySem.W.fnOf "_law_box" "_law_box" (defArgs sBox) (defBody sBox) (defScope sBox) .none kV21 dc21 pm21 an21 cd21 ct21), sl21⟩) (c21 : PySem.W.codeIn K cd21 "_law_box" = true) (k21 : PySem.W.keepIn K (.ref f21) = true)
    (a22 : PySem.W.nsIn K mainGlobals "_law_take" = some (some (.ref f22))) (l22 : K.lookup f22 = some ⟨oc22, od22, .func (PySem.W.fnOf "_law_take" "_law_take" (defArgs sTak) (defBody sTak) (defScope sTak) .none kV22 dc22 pm22 an22 cd22 ct22), sl22⟩) (c22 : PySem.W.codeIn K cd22 "_law_take" = true) (k22 : PySem.W.keepIn K (.ref f22) = true)
    (a23 : PySem.W.nsIn K mainGlobals "_law_pick" = some (some (.ref f23))) (l23 : K.lookup f23 = some ⟨oc23, od23, .func (PySem.W.fnOf "_law_pick" "_law_pick" (defArgs sPck) (defBody sPck) (defScope sPck) .none kV23 dc23 pm23 an23 cd23 ct23), sl23⟩) (c23 : PySem.W.codeIn K cd23 "_law_pick" = true) (k23 : PySem.W.keepIn K (.ref f23) = true)
    (a24 : PySem.W.nsIn K mainGlobals "_law_text" = some (some (.ref f24))) (l24 : K.lookup f24 = some ⟨oc24, od24, .func (PySem.W.fnOf "_law_text" "_law_text" (defArgs sLtx) (defBody sLtx) (defScope sLtx) .none kV24 dc24 pm24 an24 cd24 ct24), sl24⟩) (c24 : PySem.W.codeIn K cd24 "_law_text" = true) (k24 : PySem.W.keepIn K (.ref f24) = true)
    (a25 : PySem.W.nsIn K mainGlobals "_law_document" = some (some (.ref f25))) (l25 : K.lookup f25 = some ⟨oc25, od25, .func (PySem.W.fnOf "_law_document" "_law_document" (defArgs sLdc) (defBody sLdc) (defScope sLdc) .none kV25 dc25 pm25 an25 cd25 ct25), sl25⟩) (c25 : PySem.W.codeIn K cd25 "_law_document" = true) (k25 : PySem.W.keepIn K (.ref f25) = true)
    (a26 : PySem.W.nsIn K mainGlobals "_law_signs" = some (some (.ref f26))) (l26 : K.lookup f26 = some ⟨oc26, od26, .func (PySem.W.fnOf "_law_signs" "_law_signs" (defArgs sLsg) (defBody sLsg) (defScope sLsg) .none kV26 dc26 pm26 an26 cd26 ct26), sl26⟩) (c26 : PySem.W.codeIn K cd26 "_law_signs" = true) (k26 : PySem.W.keepIn K (.ref f26) = true)
    (a27 : PySem.W.nsIn K mainGlobals "_law_heard" = some (some (.ref f27))) (l27 : K.lookup f27 = some ⟨oc27, od27, .func (PySem.W.fnOf "_law_heard" "_law_heard" (defArgs sHrd) (defBody sHrd) (defScope sHrd) .none kV27 dc27 pm27 an27 cd27 ct27), sl27⟩) (c27 : PySem.W.codeIn K cd27 "_law_heard" = true) (k27 : PySem.W.keepIn K (.ref f27) = true)
    (a28 : PySem.W.nsIn K mainGlobals "_law_led" = some (some (.ref f28))) (l28 : K.lookup f28 = some ⟨oc28, od28, .func (PySem.W.fnOf "_law_led" "_law_led" (defArgs sLed) (defBody sLed) (defScope sLed) .none kV28 dc28 pm28 an28 cd28 ct28), sl28⟩) (c28 : PySem.W.codeIn K cd28 "_law_led" = true) (k28 : PySem.W.keepIn K (.ref f28) = true)
    (a29 : PySem.W.nsIn K mainGlobals "_law_row" = some (some (.ref f29))) (l29 : K.lookup f29 = some ⟨oc29, od29, .func (PySem.W.fnOf "_law_row" "_law_row" (defArgs sLrw) (defBody sLrw) (defScope sLrw) .none kV29 dc29 pm29 an29 cd29 ct29), sl29⟩) (c29 : PySem.W.codeIn K cd29 "_law_row" = true) (k29 : PySem.W.keepIn K (.ref f29) = true)
    (a30 : PySem.W.nsIn K mainGlobals "_law_prefix_right" = some (some (.ref f30))) (l30 : K.lookup f30 = some ⟨oc30, od30, .func (PySem.W.fnOf "_law_prefix_right" "_law_prefix_right" (defArgs sPrr) (defBody sPrr) (defScope sPrr) .none kV30 dc30 pm30 an30 (.ref q30) ct30), sl30⟩) (c30 : PySem.W.codeIn K (.ref q30) "_law_prefix_right" = true) (k30 : PySem.W.keepIn K (.ref f30) = true)
    (a31 : PySem.W.nsIn K mainGlobals "_law_value_right" = some (some (.ref f31))) (l31 : K.lookup f31 = some ⟨oc31, od31, .func (PySem.W.fnOf "_law_value_right" "_law_value_right" (defArgs sVar) (defBody sVar) (defScope sVar) .none kV31 dc31 pm31 an31 (.ref q31) ct31), sl31⟩) (c31 : PySem.W.codeIn K (.ref q31) "_law_value_right" = true) (k31 : PySem.W.keepIn K (.ref f31) = true)
    (a32 : PySem.W.nsIn K mainGlobals "law" = some (some (.ref f32))) (l32 : K.lookup f32 = some ⟨oc32, od32, .func (PySem.W.fnOf "law" "law" (defArgs sLaw) (defBody sLaw) (defScope sLaw) .none kV32 dc32 pm32 an32 (.ref q32) ct32), sl32⟩) (c32 : PySem.W.codeIn K (.ref q32) "law" = true) (k32 : PySem.W.keepIn K (.ref f32) = true)
    (lc4 : K.lookup q4 = some ⟨y4, u4, .fields vs4, x4⟩) (hp4 : vs4[11]? = some (.ref P4)) (nT4 : K.lookup P4 = none)
    (lc30 : K.lookup q30 = some ⟨y30, u30, .fields vs30, x30⟩) (hp30 : vs30[11]? = some (.ref P30)) (nT30 : K.lookup P30 = none)
    (lc31 : K.lookup q31 = some ⟨y31, u31, .fields vs31, x31⟩) (hp31 : vs31[11]? = some (.ref P31)) (nT31 : K.lookup P31 = none)
    (lc32 : K.lookup q32 = some ⟨y32, u32, .fields vs32, x32⟩) (hp32 : vs32[11]? = some (.ref P32)) (nT32 : K.lookup P32 = none)
    (d4x30 : P4 ≠ P30)
    (d4x31 : P4 ≠ P31)
    (d4x32 : P4 ≠ P32)
    (d30x31 : P30 ≠ P31)
    (d30x32 : P30 ≠ P32)
    (d31x32 : P31 ≠ P32)
    (z0 : PySem.W.nsIn K mainGlobals "isinstance" = some none)
    (z1 : PySem.W.nsIn K mainGlobals "list" = some none)
    (z2 : PySem.W.nsIn K mainGlobals "tuple" = some none)
    (z3 : PySem.W.nsIn K mainGlobals "len" = some none)
    (z4 : PySem.W.nsIn K mainGlobals "int" = some none)
    (z5 : PySem.W.nsIn K mainGlobals "bool" = some none)
    (z6 : PySem.W.nsIn K mainGlobals "str" = some none)
    (z7 : PySem.W.nsIn K mainGlobals "all" = some none)
    (z8 : PySem.W.nsIn K mainGlobals "enumerate" = some none)
    (z9 : PySem.W.nsIn K mainGlobals "reversed" = some none)
    (z10 : PySem.W.nsIn K mainGlobals "range" = some none)
    (z11 : PySem.W.nsIn K mainGlobals "abs" = some none)
    (z12 : PySem.W.nsIn K mainGlobals "sorted" = some none)
    (z13 : PySem.W.nsIn K mainGlobals "min" = some none)
    (z14 : PySem.W.nsIn K mainGlobals "repr" = some none)
    (z15 : PySem.W.nsIn K mainGlobals "max" = some none)
    (v0 : PySem.W.nsIn K mainGlobals "LETTERS" = some (some (.str lets tL)))
    (v1 : PySem.W.nsIn K mainGlobals "LABEL_MOST" = some (some (.int 12 tM)))
    (v2 : PySem.W.nsIn K mainGlobals "TEXT_MOST" = some (some (.int 65535 tT)))
    (aO : PySem.W.nsIn K mainGlobals "OpenError" = some (some (.ref O)))
    (cg : PySem.W.specialIn K (.builtin "object.__class__") "__get__" = some (some (.builtin "getset_descriptor.__get__"))) (ct : PySem.W.takesIn K (.builtin "object.__class__") = some true)
    {CS fIS : Addr} {nmS qqS : Str} {NS : Addr} {bsS : List Value} {snS : List Str} {subS : List Value} {abS : Bool} {colS : Option Bool} {ddS : Option Addr} {m0S m1S m2S m3S m5S : Option Value} {odS anS : Option Addr} {slS : Array (Option Value)} {ocS kVS dcS pmS cdS ctS : Value}
    (aCS : PySem.W.nsIn K mainGlobals "BadStream" = some (some (.ref CS)))
    (xLS : K.lookup CS = some (excClassObj nmS qqS CS NS bsS [.ref O, .type "ValueError", .type "Exception", .type "BaseException", .type "object"] true snS subS abS colS ddS m0S m1S m2S m3S m5S "ValueError.__new__"))
    (saS : PySem.W.findIn K (.ref CS) "__setattr__" = some (some (.builtin "object.__setattr__"))) (naS : PySem.W.findIn K (.ref CS) "at" = some none)
    (aIS : PySem.W.findIn K (.ref CS) "__init__" = some (some (.ref fIS))) (tIS : PySem.W.typeIn K (.ref fIS) = some (.type "function"))
    (lIS : K.lookup fIS = some ⟨ocS, odS, .func (PySem.W.fnOf "__init__" "BadStream.__init__" (defArgs (inClass cBadStream 0)) (defBody (inClass cBadStream 0)) (defScope (inClass cBadStream 0)) .none kVS dcS pmS anS cdS ctS), slS⟩) (cIS : PySem.W.codeIn K cdS "BadStream.__init__" = true) (kIS : PySem.W.keepIn K (.ref fIS) = true)
    (kCS : PySem.W.keepIn K (.ref CS) = true) (eCS : PySem.W.subIn K (.ref CS) (.type "BaseException") = some true) (tCS : PySem.W.typeIn K (.ref CS) = some (.type "type")) (iCS : PySem.W.isClsIn K CS = true) (sCS : PySem.W.subIn K (.ref CS) (.ref CS) = some true)
    (gaS : PySem.W.findIn K (.ref CS) "__getattribute__" = some (some (.builtin "BaseException.__getattribute__"))) (ggS : PySem.W.findIn K (.ref CS) "__getattr__" = some none) (hdS : PySem.W.hasDictIn K CS = true)
    (caS : PySem.W.findIn K (.ref CS) "__class__" = some (some (.builtin "object.__class__"))) (moS : PySem.W.mroIn K CS (.type "object") = some true) (opS : PySem.W.kitOne K (.ref CS) (.ref O) = some true)
    {CR fIR : Addr} {nmR qqR : Str} {NR : Addr} {bsR : List Value} {snR : List Str} {subR : List Value} {abR : Bool} {colR : Option Bool} {ddR : Option Addr} {m0R m1R m2R m3R m5R : Option Value} {odR anR : Option Addr} {slR : Array (Option Value)} {ocR kVR dcR pmR cdR ctR : Value}
    (aCR : PySem.W.nsIn K mainGlobals "Refused" = some (some (.ref CR)))
    (xLR : K.lookup CR = some (excClassObj nmR qqR CR NR bsR [.ref O, .type "ValueError", .type "Exception", .type "BaseException", .type "object"] true snR subR abR colR ddR m0R m1R m2R m3R m5R "ValueError.__new__"))
    (saR : PySem.W.findIn K (.ref CR) "__setattr__" = some (some (.builtin "object.__setattr__"))) (naR : PySem.W.findIn K (.ref CR) "at" = some none)
    (aIR : PySem.W.findIn K (.ref CR) "__init__" = some (some (.ref fIR))) (tIR : PySem.W.typeIn K (.ref fIR) = some (.type "function"))
    (lIR : K.lookup fIR = some ⟨ocR, odR, .func (PySem.W.fnOf "__init__" "Refused.__init__" (defArgs (inClass cRefused 0)) (defBody (inClass cRefused 0)) (defScope (inClass cRefused 0)) .none kVR dcR pmR anR cdR ctR), slR⟩) (cIR : PySem.W.codeIn K cdR "Refused.__init__" = true) (kIR : PySem.W.keepIn K (.ref fIR) = true)
    (kCR : PySem.W.keepIn K (.ref CR) = true) (eCR : PySem.W.subIn K (.ref CR) (.type "BaseException") = some true) (tCR : PySem.W.typeIn K (.ref CR) = some (.type "type")) (iCR : PySem.W.isClsIn K CR = true) (sCR : PySem.W.subIn K (.ref CR) (.ref CR) = some true)
    (gaR : PySem.W.findIn K (.ref CR) "__getattribute__" = some (some (.builtin "BaseException.__getattribute__"))) (ggR : PySem.W.findIn K (.ref CR) "__getattr__" = some none) (hdR : PySem.W.hasDictIn K CR = true)
    (caR : PySem.W.findIn K (.ref CR) "__class__" = some (some (.builtin "object.__class__"))) (moR : PySem.W.mroIn K CR (.type "object") = some true) (opR : PySem.W.kitOne K (.ref CR) (.ref O) = some true)
    (rs : PySem.W.subIn K (.ref CR) (.ref CS) = some false) :
    Known Pg w K mg fa := by
  have e := hfa.symm.trans (PySem.W.mg_of X G a32)
  cases e
  have T : Tx K mg := ⟨PySem.W.mg_none_of X G z0, PySem.W.mg_none_of X G z1, PySem.W.mg_none_of X G z2, PySem.W.mg_none_of X G z3, PySem.W.mg_none_of X G z4, PySem.W.mg_none_of X G z5, PySem.W.mg_none_of X G z6, PySem.W.mg_none_of X G z7, PySem.W.mg_none_of X G z8, PySem.W.mg_none_of X G z9, PySem.W.mg_none_of X G z10, PySem.W.mg_none_of X G z11, PySem.W.mg_none_of X G z12, PySem.W.mg_none_of X G z13, ⟨tL, PySem.W.mg_of X G v0⟩, ⟨tM, PySem.W.mg_of X G v1⟩, ⟨tT, PySem.W.mg_of X G v2⟩⟩
  have TT : Ty K mg := ⟨T, PySem.W.mg_none_of X G z14, PySem.W.mg_none_of X G z15⟩
  have FIS := fun_mk (st := inClass cBadStream 0) lIS cIS kIS
  have bIS := FIS.binds (ps := ["self", "at"]) fun _ _ _ _ _ _ us hl => match us, hl with | [_, _], _ => rfl
  have BS : ErS K mg CS fIS _ := ⟨⟨⟨nmS, qqS, NS, bsS, _, snS, subS, abS, colS, ddS, m0S, m1S, m2S, m3S, m5S, xLS, by rfl⟩, saS, eCS, tCS, kCS⟩, naS, aIS, tIS, FIS, bIS, PySem.W.mg_of X G aCS, exm_self eCS iCS tCS sCS⟩
  have OS : ErO K CS O := ⟨⟨gaS, ggS, eCS, hdS⟩, ⟨iCS, gaS, ggS, eCS, caS, cg, ct, moS⟩, naS, opS, exm_self eCS iCS tCS sCS⟩
  have FIR := fun_mk (st := inClass cRefused 0) lIR cIR kIR
  have bIR := FIR.binds (ps := ["self", "at"]) fun _ _ _ _ _ _ us hl => match us, hl with | [_, _], _ => rfl
  have BR : ErR K mg CR fIR _ := ⟨⟨⟨nmR, qqR, NR, bsR, _, snR, subR, abR, colR, ddR, m0R, m1R, m2R, m3R, m5R, xLR, by rfl⟩, saR, eCR, tCR, kCR⟩, naR, aIR, tIR, FIR, bIR, PySem.W.mg_of X G aCR, exm_self eCR iCR tCR sCR⟩
  have OR : ErO K CR O := ⟨⟨gaR, ggR, eCR, hdR⟩, ⟨iCR, gaR, ggR, eCR, caR, cg, ct, moR⟩, naR, opR, exm_self eCR iCR tCR sCR⟩
  have RS := exm_no eCS iCS tCS rs
  have HH : Hear K mg CS CR O := ⟨PySem.W.mg_of X G aCS, PySem.W.mg_of X G aCR, PySem.W.mg_of X G aO, OS, OR, RS⟩
  have F1 := fun_mk (st := sNum) l1 c1 k1
  have b1 := F1.binds (ps := ["value"]) fun _ _ _ _ _ _ us hl => match us, hl with | [_], _ => rfl
  have D1 : Df K mg "is_number" sNum ["value"] f1 _ := ⟨F1, PySem.W.mg_of X G a1, b1⟩
  have F2 := fun_mk (st := sNub) l2 c2 k2
  have b2 := F2.binds (ps := ["value", "bound"]) fun _ _ _ _ _ _ us hl => match us, hl with | [_, _], _ => rfl
  have D2 : Df K mg "is_number_below" sNub ["value", "bound"] f2 _ := ⟨F2, PySem.W.mg_of X G a2, b2⟩
  have F3 := fun_mk (st := sSeq) l3 c3 k3
  have b3 := F3.binds (ps := ["value"]) fun _ _ _ _ _ _ us hl => match us, hl with | [_], _ => rfl
  have D3 : Df K mg "is_sequence" sSeq ["value"] f3 _ := ⟨F3, PySem.W.mg_of X G a3, b3⟩
  have F4 := fun_mk (st := sLab) l4 c4 k4
  have b4 := F4.binds (ps := ["value"]) fun _ _ _ _ _ _ us hl => match us, hl with | [_], _ => rfl
  have D4 : DfC K mg "is_label" sLab ["value"] f4 _ q4 := ⟨⟨oc4, od4, kV4, dc4, pm4, an4, ct4, sl4, rfl, l4, c4⟩, k4, PySem.W.mg_of X G a4, b4⟩
  have F5 := fun_mk (st := sTxt) l5 c5 k5
  have b5 := F5.binds (ps := ["value"]) fun _ _ _ _ _ _ us hl => match us, hl with | [_], _ => rfl
  have D5 : Df K mg "is_text" sTxt ["value"] f5 _ := ⟨F5, PySem.W.mg_of X G a5, b5⟩
  have F6 := fun_mk (st := sFau) l6 c6 k6
  have b6 := F6.binds (ps := ["value"]) fun _ _ _ _ _ _ us hl => match us, hl with | [_], _ => rfl
  have D6 : Df K mg "_sign_fault" sFau ["value"] f6 _ := ⟨F6, PySem.W.mg_of X G a6, b6⟩
  have F7 := fun_mk (st := sSgn) l7 c7 k7
  have b7 := F7.binds (ps := ["value"]) fun _ _ _ _ _ _ us hl => match us, hl with | [_], _ => rfl
  have D7 : Df K mg "is_sign" sSgn ["value"] f7 _ := ⟨F7, PySem.W.mg_of X G a7, b7⟩
  have F8 := fun_mk (st := sRdl) l8 c8 k8
  have b8 := F8.binds (ps := ["value", "ahead"]) fun _ _ _ _ _ _ us hl => match us, hl with | [_, _], _ => rfl
  have D8 : Df K mg "read_levels" sRdl ["value", "ahead"] f8 _ := ⟨F8, PySem.W.mg_of X G a8, b8⟩
  have F9 := fun_mk (st := sStp) l9 c9 k9
  have b9 := F9.binds (ps := ["sign"]) fun _ _ _ _ _ _ us hl => match us, hl with | [_], _ => rfl
  have D9 : Df K mg "_step_of" sStp ["sign"] f9 _ := ⟨F9, PySem.W.mg_of X G a9, b9⟩
  have F10 := fun_mk (st := sRwh) l10 c10 k10
  have b10 := F10.binds (ps := ["value", "ahead"]) fun _ _ _ _ _ _ us hl => match us, hl with | [_, _], _ => rfl
  have D10 : Df K mg "_read_whole" sRwh ["value", "ahead"] f10 _ := ⟨F10, PySem.W.mg_of X G a10, b10⟩
  have F11 := fun_mk (st := sCpf) l11 c11 k11
  have b11 := F11.binds (ps := ["value"]) fun _ _ _ _ _ _ us hl => match us, hl with | [_], _ => rfl
  have D11 : Df K mg "check_prefix" sCpf ["value"] f11 _ := ⟨F11, PySem.W.mg_of X G a11, b11⟩
  have F12 := fun_mk (st := sCst) l12 c12 k12
  have b12 := F12.binds (ps := ["value"]) fun _ _ _ _ _ _ us hl => match us, hl with | [_], _ => rfl
  have D12 : Df K mg "check_stream" sCst ["value"] f12 _ := ⟨F12, PySem.W.mg_of X G a12, b12⟩
  have F13 := fun_mk (st := sIst) l13 c13 k13
  have b13 := F13.binds (ps := ["value"]) fun _ _ _ _ _ _ us hl => match us, hl with | [_], _ => rfl
  have D13 : Df K mg "is_stream" sIst ["value"] f13 _ := ⟨F13, PySem.W.mg_of X G a13, b13⟩
  have F14 := fun_mk (st := sCen) l14 c14 k14
  have b14 := F14.binds (ps := ["depth", "value"]) fun _ _ _ _ _ _ us hl => match us, hl with | [_, _], _ => rfl
  have D14 : Df K mg "check_ending" sCen ["depth", "value"] f14 _ := ⟨F14, PySem.W.mg_of X G a14, b14⟩
  have F15 := fun_mk (st := sIen) l15 c15 k15
  have b15 := F15.binds (ps := ["depth", "value"]) fun _ _ _ _ _ _ us hl => match us, hl with | [_, _], _ => rfl
  have D15 : Df K mg "is_ending" sIen ["depth", "value"] f15 _ := ⟨F15, PySem.W.mg_of X G a15, b15⟩
  have F16 := fun_mk (st := sClo) l16 c16 k16
  have b16 := F16.binds (ps := ["depth"]) fun _ _ _ _ _ _ us hl => match us, hl with | [_], _ => rfl
  have D16 : Df K mg "closing" sClo ["depth"] f16 _ := ⟨F16, PySem.W.mg_of X G a16, b16⟩
  have F17 := fun_mk (st := sDep) l17 c17 k17
  have b17 := F17.binds (ps := ["prefix"]) fun _ _ _ _ _ _ us hl => match us, hl with | [_], _ => rfl
  have D17 : Df K mg "depth" sDep ["prefix"] f17 _ := ⟨F17, PySem.W.mg_of X G a17, b17⟩
  have F18 := fun_mk (st := sDps) l18 c18 k18
  have b18 := F18.binds (ps := ["prefix"]) fun _ _ _ _ _ _ us hl => match us, hl with | [_], _ => rfl
  have D18 : Df K mg "depths" sDps ["prefix"] f18 _ := ⟨F18, PySem.W.mg_of X G a18, b18⟩
  have F19 := fun_mk (st := sOpl) l19 c19 k19
  have b19 := F19.binds (ps := ["prefix"]) fun _ _ _ _ _ _ us hl => match us, hl with | [_], _ => rfl
  have D19 : Df K mg "open_labels" sOpl ["prefix"] f19 _ := ⟨F19, PySem.W.mg_of X G a19, b19⟩
  have F20 := fun_mk (st := sNbh) l20 c20 k20
  have b20 := F20.binds (ps := ["prefix", "at"]) fun _ _ _ _ _ _ us hl => match us, hl with | [_, _], _ => rfl
  have D20 : Df K mg "node_behind" sNbh ["prefix", "at"] f20 _ := ⟨F20, PySem.W.mg_of X G a20, b20⟩
  have F21 := fun_mk (st := sBox) l21 c21 k21
  have b21 := F21.binds (ps := ["script", "k"]) fun _ _ _ _ _ _ us hl => match us, hl with | [_, _], _ => rfl
  have D21 : Df K mg "_law_box" sBox ["script", "k"] f21 _ := ⟨F21, PySem.W.mg_of X G a21, b21⟩
  have F22 := fun_mk (st := sTak) l22 c22 k22
  have b22 := F22.binds (ps := ["box", "many"]) fun _ _ _ _ _ _ us hl => match us, hl with | [_, _], _ => rfl
  have D22 : Df K mg "_law_take" sTak ["box", "many"] f22 _ := ⟨F22, PySem.W.mg_of X G a22, b22⟩
  have F23 := fun_mk (st := sPck) l23 c23 k23
  have b23 := F23.binds (ps := ["box", "some"]) fun _ _ _ _ _ _ us hl => match us, hl with | [_, _], _ => rfl
  have D23 : Df K mg "_law_pick" sPck ["box", "some"] f23 _ := ⟨F23, PySem.W.mg_of X G a23, b23⟩
  have F24 := fun_mk (st := sLtx) l24 c24 k24
  have b24 := F24.binds (ps := ["box"]) fun _ _ _ _ _ _ us hl => match us, hl with | [_], _ => rfl
  have D24 : Df K mg "_law_text" sLtx ["box"] f24 _ := ⟨F24, PySem.W.mg_of X G a24, b24⟩
  have F25 := fun_mk (st := sLdc) l25 c25 k25
  have b25 := F25.binds (ps := ["box", "within"]) fun _ _ _ _ _ _ us hl => match us, hl with | [_, _], _ => rfl
  have D25 : Df K mg "_law_document" sLdc ["box", "within"] f25 _ := ⟨F25, PySem.W.mg_of X G a25, b25⟩
  have F26 := fun_mk (st := sLsg) l26 c26 k26
  have b26 := F26.binds (ps := ["document"]) fun _ _ _ _ _ _ us hl => match us, hl with | [_], _ => rfl
  have D26 : Df K mg "_law_signs" sLsg ["document"] f26 _ := ⟨F26, PySem.W.mg_of X G a26, b26⟩
  have F27 := fun_mk (st := sHrd) l27 c27 k27
  have b27 := F27.binds (ps := ["ask"]) fun _ _ _ _ _ _ us hl => match us, hl with | [_], _ => rfl
  have D27 : Df K mg "_law_heard" sHrd ["ask"] f27 _ := ⟨F27, PySem.W.mg_of X G a27, b27⟩
  have F28 := fun_mk (st := sLed) l28 c28 k28
  have b28 := F28.binds (ps := ["value", "many"]) fun _ _ _ _ _ _ us hl => match us, hl with | [_, _], _ => rfl
  have D28 : Df K mg "_law_led" sLed ["value", "many"] f28 _ := ⟨F28, PySem.W.mg_of X G a28, b28⟩
  have F29 := fun_mk (st := sLrw) l29 c29 k29
  have b29 := F29.binds (ps := ["box"]) fun _ _ _ _ _ _ us hl => match us, hl with | [_], _ => rfl
  have D29 : Df K mg "_law_row" sLrw ["box"] f29 _ := ⟨F29, PySem.W.mg_of X G a29, b29⟩
  have F30 := fun_mk (st := sPrr) l30 c30 k30
  have b30 := F30.binds (ps := ["box", "line"]) fun _ _ _ _ _ _ us hl => match us, hl with | [_, _], _ => rfl
  have D30 : DfC K mg "_law_prefix_right" sPrr ["box", "line"] f30 _ q30 := ⟨⟨oc30, od30, kV30, dc30, pm30, an30, ct30, sl30, rfl, l30, c30⟩, k30, PySem.W.mg_of X G a30, b30⟩
  have F31 := fun_mk (st := sVar) l31 c31 k31
  have b31 := F31.binds (ps := ["box", "value"]) fun _ _ _ _ _ _ us hl => match us, hl with | [_, _], _ => rfl
  have D31 : DfC K mg "_law_value_right" sVar ["box", "value"] f31 _ q31 := ⟨⟨oc31, od31, kV31, dc31, pm31, an31, ct31, sl31, rfl, l31, c31⟩, k31, PySem.W.mg_of X G a31, b31⟩
  have F32 := fun_mk (st := sLaw) l32 c32 k32
  have b32 := F32.binds (ps := ["script"]) fun _ _ _ _ _ _ us hl => match us, hl with | [_], _ => rfl
  have D32 : DfC K mg "law" sLaw ["script"] fa _ q32 := ⟨⟨oc32, od32, kV32, dc32, pm32, an32, ct32, sl32, rfl, l32, c32⟩, k32, PySem.W.mg_of X G a32, b32⟩
  refine ⟨q4, P4, q30, P30, q31, P31, q32, P32, PySem.W.fnOf "law" "law" (defArgs sLaw) (defBody sLaw) (defScope sLaw) .none kV32 dc32 pm32 an32 (.ref q32) ct32, tab_mk a4 l4 rfl lc4 hp4, nT4, tab_mk a30 l30 rfl lc30 hp30, nT30, tab_mk a31 l31 rfl lc31 hp31, nT31, tab_mk a32 l32 rfl lc32 hp32, nT32, fun s u => .of_eq rfl, fun base _ _ TB1 TB2 TB3 TB4 => ?_⟩
  obtain ⟨L, eL⟩ : ∃ L : List (Addr × Str), L = [(P30, ("_law_prefix_right" : Str) ++ ".<locals>." ++ "<lambda>"), (P31, ("_law_value_right" : Str) ++ ".<locals>." ++ "<lambda>"), (P32, ("law" : Str) ++ ".<locals>." ++ "<lambda>")] := ⟨_, rfl⟩
  have ap : Apart L P4 := by
    rw [eL]
    intro p hp
    simp only [List.mem_cons, List.not_mem_nil, or_false] at hp
    rcases hp with rfl | rfl | rfl
    · exact Ne.symm d4x30
    · exact Ne.symm d4x31
    · exact Ne.symm d4x32
  have u0 : ∀ p ∈ L, p.1 = P30 → p.2 = ("_law_prefix_right" : Str) ++ ".<locals>." ++ "<lambda>" := by
    rw [eL]
    intro p hp e
    simp only [List.mem_cons, List.not_mem_nil, or_false] at hp
    rcases hp with rfl | rfl | rfl
    · rfl
    · exact absurd e (Ne.symm d30x31)
    · exact absurd e (Ne.symm d30x32)
  have m0 : (P30, ("_law_prefix_right" : Str) ++ ".<locals>." ++ "<lambda>") ∈ L := by rw [eL]; simp
  have u1 : ∀ p ∈ L, p.1 = P31 → p.2 = ("_law_value_right" : Str) ++ ".<locals>." ++ "<lambda>" := by
    rw [eL]
    intro p hp e
    simp only [List.mem_cons, List.not_mem_nil, or_false] at hp
    rcases hp with rfl | rfl | rfl
    · exact absurd e d30x31
    · rfl
    · exact absurd e (Ne.symm d31x32)
  have m1 : (P31, ("_law_value_right" : Str) ++ ".<locals>." ++ "<lambda>") ∈ L := by rw [eL]; simp
  have u2 : ∀ p ∈ L, p.1 = P32 → p.2 = ("law" : Str) ++ ".<locals>." ++ "<lambda>" := by
    rw [eL]
    intro p hp e
    simp only [List.mem_cons, List.not_mem_nil, or_false] at hp
    rcases hp with rfl | rfl | rfl
    · exact absurd e d30x32
    · exact absurd e d31x32
    · rfl
  have m2 : (P32, ("law" : Str) ++ ".<locals>." ++ "<lambda>") ∈ L := by rw [eL]; simp
  have Gfau : FnOk Pg w K mg base CX0 2 f6 _ ["value"] (spFau K P4) := ok_fau F6 T TB1 D3 D4 D5
  have Gsgn : FnOk Pg w K mg base CX0 3 f7 _ ["value"] (spSgn K P4) := ok_sgn F7 D6 Gfau
  have Grdl : FnOk Pg w K mg base (L2.CX Pg w) 4 f8 _ ["value", "ahead"] (spRdl K P4 CS) := ok_rdl F8 T BS D3 D7 Gsgn D9
  have Grwh : FnOk Pg w K mg base (L2.CX Pg w) 5 f10 _ ["value", "ahead"] (spRwh K P4 CS) := ok_rwh F10 T BS D8 Grdl
  have Gcpf : FnOk Pg w K mg base (L2.CX Pg w) 5 f11 _ ["value"] (spCpf K P4 CS) := ok_cpf F11 D8 Grdl
  have Gdep : FnOk Pg w K mg base (L2.CX Pg w) 5 f17 _ ["prefix"] (spDep K P4 CS) := ok_dep F17 D8 Grdl
  have Gcst : FnOk Pg w K mg base (L2.CX Pg w) 6 f12 _ ["value"] (spCst K P4 CS) := ok_cst F12 D10 Grwh
  have Gcen : FnOk Pg w K mg base (L2.CX Pg w) 6 f14 _ ["depth", "value"] (spCen K P4 CS CR) := ok_cen F14 T BR D1 D10 Grwh
  have Gist : FnOk Pg w K mg base CX0 7 f13 _ ["value"] (spIst K P4) := ok_ist F13 BS D12 Gcst
  have Gien : FnOk Pg w K mg base (L2.CX Pg w) 7 f15 _ ["depth", "value"] (spIen K P4 CR) := ok_ien (fJ := fIR) (fdJ := PySem.W.fnOf "law" "law" (defArgs sLaw) (defBody sLaw) (defScope sLaw) .none kV32 dc32 pm32 an32 (.ref q32) ct32) F15 BS RS D14 Gcen
  have Gclo : FnOk Pg w K mg base (L2.CX Pg w) 3 f16 _ ["depth"] (spClo K P4 CR) := ok_clo F16 T BR D1
  have Gdps : FnOk Pg w K mg base (L2.CX Pg w) 6 f18 _ ["prefix"] (spDps K P4 CS) := ok_dps F18 T D11 Gcpf D9
  have Gopl : FnOk Pg w K mg base (L2.CX Pg w) 6 f19 _ ["prefix"] (spOpl K P4 CS) := ok_opl F19 T D11 Gcpf
  have Gnbh : FnOk Pg w K mg base (L2.CX Pg w) 6 f20 _ ["prefix", "at"] (spNbh K P4 CS CR) := ok_nbh F20 T BR D2 D1 D11 Gcpf D9
  have Gbox : FnOk Pg w K mg base CX0 1 f21 _ ["script", "k"] (spBox K P4) := ok_box F21 T
  have Gtak : FnOk Pg w K mg base CX0 1 f22 _ ["box", "many"] (spTakG) := ok_takG F22 T
  have Gpck : FnOk Pg w K mg base CX0 2 f23 _ ["box", "some"] (spPckG K) := ok_pckG F23 T D22
  have Gldc : FnOk Pg w K mg base CX0 8 f25 _ ["box", "within"] (spLdc K P4 4) := ok_ldc F25 T D25 D22 D23 D24 4
  have Glsg : FnOk Pg w K mg base CX0 6 f26 _ ["document"] (spLsg K P4 5) := ok_lsg F26 D26 5
  have Gled : FnOk Pg w K mg base CX0 1 f28 _ ["value", "many"] (spLed K P4) := ok_led F28 T
  have Glrw : FnOk Pg w K mg base CX0 3 f29 _ ["box"] (spLrw K P4) := ok_lrw F29 T D22 D23
  have Ghrd : FnS Pg w K mg base CX0 9 f27 _ ["ask"] (spHrd Pg w K mg base P4 CS CR) := ok_hrd F27 TT HH
  let Cpf : Fx1 Pg w K mg base (L2.CX Pg w) 5 "check_prefix" "value" (spCpf K P4 CS) := ⟨⟨f11, _, D11.g, D11.F.kp, D11.b, Gcpf⟩, kb1 F11 fun _ _ _ _ _ _ _ => rfl⟩
  let Dep : Fx1 Pg w K mg base (L2.CX Pg w) 5 "depth" "prefix" (spDep K P4 CS) := ⟨⟨f17, _, D17.g, D17.F.kp, D17.b, Gdep⟩, kb1 F17 fun _ _ _ _ _ _ _ => rfl⟩
  let Dps : Fx1 Pg w K mg base (L2.CX Pg w) 6 "depths" "prefix" (spDps K P4 CS) := ⟨⟨f18, _, D18.g, D18.F.kp, D18.b, Gdps⟩, kb1 F18 fun _ _ _ _ _ _ _ => rfl⟩
  let Opl : Fx1 Pg w K mg base (L2.CX Pg w) 6 "open_labels" "prefix" (spOpl K P4 CS) := ⟨⟨f19, _, D19.g, D19.F.kp, D19.b, Gopl⟩, kb1 F19 fun _ _ _ _ _ _ _ => rfl⟩
  let Nbh : Fx2 Pg w K mg base (L2.CX Pg w) 6 "node_behind" "prefix" "at" (spNbh K P4 CS CR) := ⟨⟨f20, _, D20.g, D20.F.kp, D20.b, Gnbh⟩, kb2 F20 fun _ _ _ _ _ _ _ _ => rfl⟩
  let Cen : Fx2 Pg w K mg base (L2.CX Pg w) 6 "check_ending" "depth" "value" (spCen K P4 CS CR) := ⟨⟨f14, _, D14.g, D14.F.kp, D14.b, Gcen⟩, kb2 F14 fun _ _ _ _ _ _ _ _ => rfl⟩
  let Ien : Fx2 Pg w K mg base (L2.CX Pg w) 7 "is_ending" "depth" "value" (spIen K P4 CR) := ⟨⟨f15, _, D15.g, D15.F.kp, D15.b, Gien⟩, kb2 F15 fun _ _ _ _ _ _ _ _ => rfl⟩
  let Cst : Fx1 Pg w K mg base (L2.CX Pg w) 6 "check_stream" "value" (spCst K P4 CS) := ⟨⟨f12, _, D12.g, D12.F.kp, D12.b, Gcst⟩, kb1 F12 fun _ _ _ _ _ _ _ => rfl⟩
  let Ist : Fx1 Pg w K mg base CX0 7 "is_stream" "value" (spIst K P4) := ⟨⟨f13, _, D13.g, D13.F.kp, D13.b, Gist⟩, kb1 F13 fun _ _ _ _ _ _ _ => rfl⟩
  let Clo : Fx1 Pg w K mg base (L2.CX Pg w) 3 "closing" "depth" (spClo K P4 CR) := ⟨⟨f16, _, D16.g, D16.F.kp, D16.b, Gclo⟩, kb1 F16 fun _ _ _ _ _ _ _ => rfl⟩
  let Led : Fx Pg w K mg base CX0 1 "_law_led" ["value", "many"] (spLed K P4) := ⟨f28, _, D28.g, D28.F.kp, D28.b, Gled⟩
  let Tak : Fx Pg w K mg base CX0 1 "_law_take" ["box", "many"] (spTakG) := ⟨f22, _, D22.g, D22.F.kp, D22.b, Gtak⟩
  let Pck : Fx Pg w K mg base CX0 2 "_law_pick" ["box", "some"] (spPckG K) := ⟨f23, _, D23.g, D23.F.kp, D23.b, Gpck⟩
  let Bx : Fx Pg w K mg base CX0 1 "_law_box" ["script", "k"] (spBox K P4) := ⟨f21, _, D21.g, D21.F.kp, D21.b, Gbox⟩
  let Row : Fx Pg w K mg base CX0 3 "_law_row" ["box"] (spLrw K P4) := ⟨f29, _, D29.g, D29.F.kp, D29.b, Glrw⟩
  let Doc : Fx Pg w K mg base CX0 8 "_law_document" ["box", "within"] (spLdc K P4 4) := ⟨f25, _, D25.g, D25.F.kp, D25.b, Gldc⟩
  let Sig : Fx Pg w K mg base CX0 6 "_law_signs" ["document"] (spLsg K P4 5) := ⟨f26, _, D26.g, D26.F.kp, D26.b, Glsg⟩
  let Hrd : FxS Pg w K mg base 9 "_law_heard" ["ask"] (spHrd Pg w K mg base P4 CS CR) := ⟨f27, _, D27.g, D27.F.kp, D27.b, Ghrd⟩
  let Prr : FxS Pg w K mg base 10 "_law_prefix_right" ["box", "line"] (spPrr K P4 L) := ⟨f30, _, D30.g, D30.kp, D30.b, ok_prr D30 TT ⟨TB2.code, TB2.bm, TB2.gP⟩ ap (Ne.symm d4x30) m0 u0 Dep Dps Opl Nbh Led Pck Hrd⟩
  let Var : FxS Pg w K mg base 11 "_law_value_right" ["box", "value"] (spVar K P4 L) := ⟨f31, _, D31.g, D31.kp, D31.b, ok_var D31 TT ⟨TB3.code, TB3.bm, TB3.gP⟩ ap (Ne.symm d4x31) m1 u1 Cpf Dep Dps Opl Nbh Cen Ien Cst Ist Led Tak Hrd Prr⟩
  have GL := ok_law D32 TT ⟨TB4.code, TB4.bm, TB4.gP⟩ ap (Ne.symm d4x32) m2 u2 Dep Cen Ien Ist Clo Bx Tak Pck Row Doc Sig Hrd Prr Var
  subst eL
  exact gok_of GL ⟨rfl, by decide, by decide⟩
theorem walk {l : PySem.W.OpenLaw} {q : Program} {loose : List Str} {XP : (Str → Option Value) → Heap → Prop} {YP : World → Heap → Prop} {d : DefRec} {K : Params → PySem.W.Frag} (hn : l.most = some 63) (hdf : d.params.defaults = [])
    (r1 : ((recsOf q).find? fun e => e.name == ("is_label" : Str)).isSome = true) (r2 : ((recsOf q).find? fun e => e.name == ("_law_prefix_right" : Str)).isSome = true) (r3 : ((recsOf q).find? fun e => e.name == ("_law_value_right" : Str)).isSome = true) (r4 : ((recsOf q).find? fun e => e.name == ("law" : Str)).isSome = true) (hY : ∀ (w : World) (h : Heap), YP w h → (K w.params).In h)
    (F : ∀ (w : World) (mg : Str → Option Value) (fa : Addr) (h : Heap), (K w.params).In h → h.Ns mainGlobals mg → mg d.name = some (.ref fa) → Known l.prog w (K w.params) mg fa) :
    PySem.W.WalkO q loose XP YP l.row.toRowW d [] (fun f vs => PySem.call f vs) := by
  refine Att.attach_callB hn hdf fun w s₀ s₁ mg mb fa o pm cd doc a vs ns G Y ho hd hcd hmg hobj hints hlen hbits hg => ?_
  have KX := hY w _ Y
  obtain ⟨c1, P1, c2, P2, c3, P3, c4, P4, fd, ht1, n1, ht2, n2, ht3, n3, ht4, n4, hb, hF⟩ := F w mg fa _ KX G.T.g hmg
  obtain ⟨dr1, e1⟩ := Option.isSome_iff_exists.mp r1
  obtain ⟨dr2, e2⟩ := Option.isSome_iff_exists.mp r2
  obtain ⟨dr3, e3⟩ := Option.isSome_iff_exists.mp r3
  obtain ⟨dr4, e4⟩ := Option.isSome_iff_exists.mp r4
  obtain ⟨Ch1, hT1⟩ := PySem.W.tab_of G.T KX e1 ht1
  obtain ⟨Ch2, hT2⟩ := PySem.W.tab_of G.T KX e2 ht2
  obtain ⟨Ch3, hT3⟩ := PySem.W.tab_of G.T KX e3 ht3
  obtain ⟨Ch4, hT4⟩ := PySem.W.tab_of G.T KX e4 ht4
  have all : ∀ {X : Addr × Addr → Prop}, X (c1, P1) → X (c2, P2) → X (c3, P3) → X (c4, P4) → ∀ p ∈ [(c1, P1), (c2, P2), (c3, P3), (c4, P4)], X p := by
    intro X x1 x2 x3 x4 p hp
    simp only [List.mem_cons, List.not_mem_nil, or_false] at hp
    rcases hp with rfl | rfl | rfl | rfl
    · exact x1
    · exact x2
    · exact x3
    · exact x4
  refine SoG3.law_end (cs := [(c1, P1), (c2, P2), (c3, P3), (c4, P4)]) KX G.T.g G.T.b G.T.builtins G.T.nolimit hg (all hT1 hT2 hT3 hT4) (all n1 n2 n3 n4) (all Ch1 Ch2 Ch3 Ch4) G.T.bmain hobj hints (Nat.le_trans hlen (by decide))
    (fun base b1 b2 tb => hF base b1 b2 (tb (c1, P1) (by simp)) (tb (c2, P2) (by simp)) (tb (c3, P3) (by simp)) (tb (c4, P4) (by simp))) hb fun H hH hS => ?_
  have h1 := hH (c1, P1) (by simp)
  have tabs : ∀ {P : Addr} {q : Str}, H P = some (.tbl #[]) → LamX.TabS H P q := fun h => ⟨#[], h, by simp [TriplesOk], fun pos cv z => nomatch z⟩
  refine ⟨⟨⟨#[], h1, by simp [TriplesOk]⟩, fun p hp => ?_⟩, a, ns, rfl, hS, hlen, fun _ => rfl⟩
  unfold tabL at hp
  simp only [List.mem_cons, List.not_mem_nil, or_false] at hp
  rcases hp with rfl | rfl | rfl
  · exact tabs (hH (c2, P2) (by simp))
  · exact tabs (hH (c3, P3) (by simp))
  · exact tabs (hH (c4, P4) (by simp))
end K6

set_option Elab.async false
set_option linter.all false
set_option maxRecDepth 100000
open PySem PySem.W PyProof.Rows
set_option maxRecDepth 100000 in
set_option maxHeartbeats 0 in
theorem PySem.Challenge.cw_stillopen_k03_whole_prefixes_streams_end_holds : PySem.Challenge.rw_stillopen_k03_whole_prefixes_streams_end.Holds := by
  w_on; o_law; k_head; (case hw => w_witness2)
  k_fill
  refine K6.walk (l := PySem.Challenge.rw_stillopen_k03_whole_prefixes_streams_end) rfl rfl (by decide +kernel) (by decide +kernel) (by decide +kernel) (by decide +kernel) (fun w h Y => Y.1) ?F
  case F =>
    intro w mg fa h KX G hmg
    refine' K6.all_mk KX G hmg ?a1 ?l1 ?c1 ?k1 ?a2 ?l2 ?c2 ?k2 ?a3 ?l3 ?c3 ?k3 ?a4 ?l4 ?c4 ?k4 ?a5 ?l5 ?c5 ?k5 ?a6 ?l6 ?c6 ?k6 ?a7 ?l7 ?c7 ?k7 ?a8 ?l8 ?c8 ?k8 ?a9 ?l9 ?c9 ?k9 ?a10 ?l10 ?c10 ?k10 ?a11 ?l11 ?c11 ?k11 ?a12 ?l12 ?c12 ?k12 ?a13 ?l13 ?c13 ?k13 ?a14 ?l14 ?c14 ?k14 ?a15 ?l15 ?c15 ?k15 ?a16 ?l16 ?c16 ?k16 ?a17 ?l17 ?c17 ?k17 ?a18 ?l18 ?c18 ?k18 ?a19 ?l19 ?c19 ?k19 ?a20 ?l20 ?c20 ?k20 ?a21 ?l21 ?c21 ?k21 ?a22 ?l22 ?c22 ?k22 ?a23 ?l23 ?c23 ?k23 ?a24 ?l24 ?c24 ?k24 ?a25 ?l25 ?c25 ?k25 ?a26 ?l26 ?c26 ?k26 ?a27 ?l27 ?c27 ?k27 ?a28 ?l28 ?c28 ?k28 ?a29 ?l29 ?c29 ?k29 ?a30 ?l30 ?c30 ?k30 ?a31 ?l31 ?c31 ?k31 ?a32 ?l32 ?c32 ?k32 ?lc4 ?hp4 ?nT4 ?lc30 ?hp30 ?nT30 ?lc31 ?hp31 ?nT31 ?lc32 ?hp32 ?nT32 ?d4x30 ?d4x31 ?d4x32 ?d30x31 ?d30x32 ?d31x32 ?z0 ?z1 ?z2 ?z3 ?z4 ?z5 ?z6 ?z7 ?z8 ?z9 ?z10 ?z11 ?z12 ?z13 ?z14 ?z15 ?v0 ?v1 ?v2 ?aO ?cg ?ct ?aCS ?xLS ?saS ?naS ?aIS ?tIS ?lIS ?cIS ?kIS ?kCS ?eCS ?tCS ?iCS ?sCS ?gaS ?ggS ?hdS ?caS ?moS ?opS ?aCR ?xLR ?saR ?naR ?aIR ?tIR ?lIR ?cIR ?kIR ?kCR ?eCR ?tCR ?iCR ?sCR ?gaR ?ggR ?hdR ?caR ?moR ?opR ?rs
    (case a1 => k_is)
    (case l1 => k_is)
    (case c1 => k_is)
    (case k1 => k_is)
    (case a2 => k_is)
    (case l2 => k_is)
    (case c2 => k_is)
    (case k2 => k_is)
    (case a3 => k_is)
    (case l3 => k_is)
    (case c3 => k_is)
    (case k3 => k_is)
    (case a4 => k_is)
    (case l4 => k_is)
    (case c4 => k_is)
    (case k4 => k_is)
    (case a5 => k_is)
    (case l5 => k_is)
    (case c5 => k_is)
    (case k5 => k_is)
    (case a6 => k_is)
    (case l6 => k_is)
    (case c6 => k_is)
    (case k6 => k_is)
    (case a7 => k_is)
    (case l7 => k_is)
    (case c7 => k_is)
    (case k7 => k_is)
    (case a8 => k_is)
    (case l8 => k_is)
    (case c8 => k_is)
    (case k8 => k_is)
    (case a9 => k_is)
    (case l9 => k_is)
    (case c9 => k_is)
    (case k9 => k_is)
    (case a10 => k_is)
    (case l10 => k_is)
    (case c10 => k_is)
    (case k10 => k_is)
    (case a11 => k_is)
    (case l11 => k_is)
    (case c11 => k_is)
    (case k11 => k_is)
    (case a12 => k_is)
    (case l12 => k_is)
    (case c12 => k_is)
    (case k12 => k_is)
    (case a13 => k_is)
    (case l13 => k_is)
    (case c13 => k_is)
    (case k13 => k_is)
    (case a14 => k_is)
    (case l14 => k_is)
    (case c14 => k_is)
    (case k14 => k_is)
    (case a15 => k_is)
    (case l15 => k_is)
    (case c15 => k_is)
    (case k15 => k_is)
    (case a16 => k_is)
    (case l16 => k_is)
    (case c16 => k_is)
    (case k16 => k_is)
    (case a17 => k_is)
    (case l17 => k_is)
    (case c17 => k_is)
    (case k17 => k_is)
    (case a18 => k_is)
    (case l18 => k_is)
    (case c18 => k_is)
    (case k18 => k_is)
    (case a19 => k_is)
    (case l19 => k_is)
    (case c19 => k_is)
    (case k19 => k_is)
    (case a20 => k_is)
    (case l20 => k_is)
    (case c20 => k_is)
    (case k20 => k_is)
    (case a21 => k_is)
    (case l21 => k_is)
    (case c21 => k_is)
    (case k21 => k_is)
    (case a22 => k_is)
    (case l22 => k_is)
    (case c22 => k_is)
    (case k22 => k_is)
    (case a23 => k_is)
    (case l23 => k_is)
    (case c23 => k_is)
    (case k23 => k_is)
    (case a24 => k_is)
    (case l24 => k_is)
    (case c24 => k_is)
    (case k24 => k_is)
    (case a25 => k_is)
    (case l25 => k_is)
    (case c25 => k_is)
    (case k25 => k_is)
    (case a26 => k_is)
    (case l26 => k_is)
    (case c26 => k_is)
    (case k26 => k_is)
    (case a27 => k_is)
    (case l27 => k_is)
    (case c27 => k_is)
    (case k27 => k_is)
    (case a28 => k_is)
    (case l28 => k_is)
    (case c28 => k_is)
    (case k28 => k_is)
    (case a29 => k_is)
    (case l29 => k_is)
    (case c29 => k_is)
    (case k29 => k_is)
    (case a30 => k_is)
    (case l30 => k_is)
    (case c30 => k_is)
    (case k30 => k_is)
    (case a31 => k_is)
    (case l31 => k_is)
    (case c31 => k_is)
    (case k31 => k_is)
    (case a32 => k_is)
    (case l32 => k_is)
    (case c32 => k_is)
    (case k32 => k_is)
    (case lc4 => k_is)
    (case hp4 => rfl)
    (case nT4 => first | rfl | kernel_rfl)
    (case lc30 => k_is)
    (case hp30 => rfl)
    (case nT30 => first | rfl | kernel_rfl)
    (case lc31 => k_is)
    (case hp31 => rfl)
    (case nT31 => first | rfl | kernel_rfl)
    (case lc32 => k_is)
    (case hp32 => rfl)
    (case nT32 => first | rfl | kernel_rfl)
    (case d4x30 => decide)
    (case d4x31 => decide)
    (case d4x32 => decide)
    (case d30x31 => decide)
    (case d30x32 => decide)
    (case d31x32 => decide)
    (case z0 => k_is)
    (case z1 => k_is)
    (case z2 => k_is)
    (case z3 => k_is)
    (case z4 => k_is)
    (case z5 => k_is)
    (case z6 => k_is)
    (case z7 => k_is)
    (case z8 => k_is)
    (case z9 => k_is)
    (case z10 => k_is)
    (case z11 => k_is)
    (case z12 => k_is)
    (case z13 => k_is)
    (case z14 => k_is)
    (case z15 => k_is)
    (case v0 => k_is)
    (case v1 => k_is)
    (case v2 => k_is)
    (case aO => k_is)
    (case cg => first | k_is | rfl | kernel_rfl)
    (case ct => first | k_is | rfl | kernel_rfl)
    (case aCS => k_is)
    (case xLS => k_is)
    (case saS => k_is)
    (case naS => k_is)
    (case aIS => k_is)
    (case tIS => k_is)
    (case lIS => k_is)
    (case cIS => k_is)
    (case kIS => k_is)
    (case kCS => k_is)
    (case eCS => k_is)
    (case tCS => k_is)
    (case iCS => k_is)
    (case sCS => first | rfl | k_is)
    (case gaS => k_is)
    (case ggS => k_is)
    (case hdS => first | k_is | rfl | kernel_rfl)
    (case caS => k_is)
    (case moS => first | k_is | rfl | kernel_rfl)
    (case opS => first | k_is | rfl | kernel_rfl)
    (case aCR => k_is)
    (case xLR => k_is)
    (case saR => k_is)
    (case naR => k_is)
    (case aIR => k_is)
    (case tIR => k_is)
    (case lIR => k_is)
    (case cIR => k_is)
    (case kIR => k_is)
    (case kCR => k_is)
    (case eCR => k_is)
    (case tCR => k_is)
    (case iCR => k_is)
    (case sCR => first | rfl | k_is)
    (case gaR => k_is)
    (case ggR => k_is)
    (case hdR => first | k_is | rfl | kernel_rfl)
    (case caR => k_is)
    (case moR => first | k_is | rfl | kernel_rfl)
    (case opR => first | k_is | rfl | kernel_rfl)
    (case rs => first | k_is | rfl | kernel_rfl)

