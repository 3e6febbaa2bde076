import ast
import importlib
import inspect
import os
import tempfile
import unittest

from language import faults_of

PACKAGE = os.path.join(os.path.dirname(os.path.dirname(os.path.abspath(__file__))), "rueless")

INTERFACE = {
    "errors": "RuelessError BadTrade BadHouse BadRow BadText BadWants BadShape BadRanking BadLooks BadOrder "
              "PaperFault Refused BadMachine BadWord BadPrices BadSizes NotRueless CannotTake TooGreat NoLetter "
              "NoStand NoRoom",
    "relations": "Relation(many, asks, *, answers, start) .holds(x, y) .rank(x, y) .pairs() .strike(x, y) "
                 ".answer(y, letter, x2) .needed(wanted) .strikes(wanted)",
    "trades": "Trade(stands, comers, beats) .steps(letter) .step(stand, letter) .takes(stand, kind) "
              "least_part(trade, stands) is_part(trade, value) all_parts(trade) cut_part(trade, part) "
              "cut_kinds(trade, kinds) in_order(trade, order) side_by_side(one, other) runs_out(trade) "
              "comer_ring(trade) most_comers(trade, stand)",
    "houses": "house_of(trade, stands, *, places) is_house(trade, value) takers(trade, house, kind) "
              "served(trade, house, kind, stand) beaten(trade, house, beat) moves_of(trade, house, letter) "
              "merged(trade, house, other) with_stand(trade, house, stand) without_stand(trade, house, stand) "
              "one_less(trade, house) is_bag_within(house, other) house_count(trade, places) "
              "all_houses(trade, places) house_number(trade, house) numbered_house(trade, places, number) "
              "reached_houses(trade, house)",
    "places": "below(trade) is_below(trade, p, q) parting_row(trade, p, q) below_paper(trade, p, q) "
              "holds_below(trade, p, q, value) alike_stands(trade) least_trade(trade) exchange_fault(trade, x, y) "
              "exchanges(trade) stand_in_fault(trade, c, d) stand_ins(trade) left_out_fault(trade, c) "
              "left_outs(trade) idle_stands(trade) covering(trade, house, other)",
    "rows": "fronts(trade, house, row) front_of(trade, house, row) can_serve(trade, house, row) "
            "longest_served(trade, house, row) serving_count(trade, house, row) some_serving(trade, house, row) "
            "all_servings(trade, house, row) plays(trade, house, row, serving) "
            "is_serving(trade, house, row, value) row_paper(trade, house, row) "
            "holds_row(trade, house, row, value) rows_served(trade, house, letters)",
    "dealings": "dealt_rows(trade, row, dealing) some_dealing(trade, house, other, row) "
                "is_dealing(trade, house, other, row, value)",
    "texts": "trade_text(trade) read_trade(text) house_text(house) read_house(trade, text)",
    "twos": "Table(trade) .is_followed(x, y) .rank(x, y) .strike(x, y) .answer(y, letter, house) "
            ".side(kind, p, q) .sides(kind) .better(kind, p, q)",
    "verdict": "clashes(table) first_clash(table) is_rueless(table) need_rueless(table) "
               "sure_choices(table, house, kind) is_sure(table, house)",
    "strikes": "verdict_paper(table) is_closed(trade, value) check_verdict(trade, paper)",
    "stewards": "Steward(table) .goes_ahead(kind, p, q) .ahead_pairs(kind) .choice(house, kind) "
                ".set_choice(stands, kind) .after(house, letter) .walk(house, row) .serving(house, row) "
                ".is_served(house, row) house_parting(steward, house, other) house_within(steward, house, other) "
                "right_takers(steward, house, kind) lost_row(steward, house, kind, stand)",
    "rankings": "ranked_choice(trade, house, kind, ranking) first_ranking(steward, kind) "
                "count_rankings(steward, kind) nth_ranking(steward, kind, number) "
                "ranking_number(steward, kind, ranking) ranking_loss(steward, kind, ranking) "
                "first_ring(steward, kind) joint_ranking(steward) joint_ring(steward) "
                "judged_ranking(table, kind, ranking, *, most) ranking_paper(steward, kind) joint_paper(steward) "
                "loss_paper(table, kind, ranking, *, most) holds_ranking(trade, value) holds_joint(trade, value)",
    "looks": "looks_loss(steward, kind, looks, order) fewest_looks(steward, kind) joint_looks(steward) "
             "longest_chain(steward, kind) joint_chain(steward) looks_paper(steward, kind) chain_paper(steward, kind) "
             "holds_looks(trade, value)",
    "stories": "least_row(table, house, other, *, most) parting_paper(table, house, other, row) "
               "parting_holds(trade, value) two_partings(table, kind, first, second, *, most) "
               "story_of(table, kind, first, second, *, most) all_stories(table, *, most) least_story(table, *, most) "
               "story_kinds(story) story_paper(table, story) story_holds(trade, value)",
    "single": "Single(table, house, *, pairs) .is_rueless() .is_followed(one, other) .choice(house, kind) .walk(row) "
              ".paper() single_holds(trade, house, value) right_choices(table, house, kind, *, most) "
              "twos_tell(table, house) foe_tree(table, house, *, most) foe_depth(table, house, *, most) "
              "foe_paper(table, house, *, most) tree_holds(trade, house, value)",
    "cores": "is_rueful_part(table, part) all_cores(table) core_of(table, house) core_paper(table, part) "
             "core_holds(trade, value)",
    "heedless": "is_heedless(table) heedless_kinds(table, *, most) is_heedless_house(table, house, *, pairs) "
                "first_careless(table, *, most) heedless_paper(table, *, most) heedless_holds(trade, value)",
    "machines": "Machine(letters, ways, *, first) .step(state, letter) .started(state) .after(row) .reads(row) "
                ".beginning(row) .after_pieces(pieces) most_times(machine, row) bag_machine(table, house) "
                "size_machine(table, places) front_machine(trade, house, *, most) machine_paper(table, house) "
                "machine_holds(trade, house, value)",
    "counts": "count_rows(machine, length) count_upto(machine, length) row_number(machine, row) "
              "numbered_row(machine, number) longest_row(machine)",
    "growths": "growth(machine) growth_paper(machine) growth_holds(machine, value)",
    "twins": "first_difference(one, other) row_beside(one, other) state_classes(machine, *, letters) "
             "class_depth(machine) least_machine(machine) is_least(machine) alike_houses(table, places) "
             "many_states(trade, house, *, most) states_holds(trade, house, value)",
    "opening": "Growing(steward, store) .come(letter) fewest_places(steward, store, row) late_pairs(steward, store) "
               "late_fault(steward, store) late_holds(trade, store, value)",
    "lots": "lot_pairs(table, firsts) pair_way(table, firsts, house) lot_houses(table, firsts, places) "
            "lot_clashes(table, firsts) is_rueless_lot(table, firsts) first_couples(table) first_sets(table) "
            "lot_paper(table, firsts) check_lot(trade, firsts, paper)",
    "homes": "Homes(trade, ends) .home_row(house) .home_houses(places) .ends_home(house, row) .is_followed(x, y) "
             ".side(kind, p, q) .clashes() .is_rueless() .choice(house, kind) .walk(house, row) .home_paper() "
             "rueless_ends(trade) check_homes(trade, ends, paper)",
    "parties": "Parties(trade, sizes) .word_moves(house, word) .word_takers(house, word) .word_fronts(house, row) "
               ".is_served(house, row) .some_serving(house, row) .side(kind, p, q) .clashes() .is_rueless() "
               ".levels(house, kind) .choice(house, word) .is_good_choice(house, word, stands) .walk(house, row) "
               ".party_paper() word_gap(trade, sizes) check_parties(trade, sizes, paper)",
    "kindsets": "complement_sets(kinds, sets) meeting_sets(kinds, sets) is_safe(trade, kinds) safe_sets(trade) "
                "rueful_sets(trade) kind_dealings(kinds, most) fewest_yards(trade) barred_dealings(trade, most) "
                "kinds_paper(trade) yards_paper(trade) check_kinds(trade, value) check_yards(trade, kinds, value)",
    "fellows": "are_fellows(table, p, q) fellow_pairs(table) barred_pairs(table) is_safe_part(table, part) "
               "greatest_parts(table) join_fault(table, part, other) fewest_parts(table) part_gaps(table, many) "
               "parts_paper(table) check_parts(trade, value)",
    "prices": "Prices(trade, prices) .price(kind, stand) added_prices(one, other) times_prices(prices, times) "
              "with_toll(prices, kind, toll) priced_moves(prices, house, letter) least_costs(prices, house, row) "
              "cheapest_serving(prices, house, row) paid_prices(prices, house, row, serving) once_prices(rows) "
              "once_story(rows)",
    "slacks": "PriceTable(prices, *, most) .slack(x, y) .answer(x, y, letter, x2) .side(kind, p, q) .sides(kind) "
              ".better(kind, p, q) price_sides(ptable) price_clashes(ptable) is_price_rueless(ptable) "
              "right_sides(ptable, value) PriceSteward(ptable) .choice(house, kind) .after(house, letter) "
              ".walk(house, row) price_story(prices, *, most)",
    "bills": "price_paper(ptable) price_story_paper(prices, story) check_prices(trade, rows, value) "
             "check_price_story(trade, rows, value)",
    "wanted": "Wants(ways) .every(trade) .of_rows(rows) .parse(text) .after(room, letter) .letters_at(room) "
              ".room_of(row) .wants_row(value) .both(other) .without(letters) .least() .row_count(length) "
              "wants_told(value) wanted_beside(one, other)",
    "enough": "missed(trade, wants, house, *, most) walked_missed(steward, wants, house) "
              "is_enough(trade, wants, house, *, most) least_enough(trade, wants, places, *, most) "
              "lesser_rows(trade, wants, house, *, most) cheapest(trade, wants, places, prices, *, most) "
              "missed_paper(trade, wants, house) missed_holds(trade, wants, house, value) "
              "enough_paper(trade, wants, places) enough_holds(trade, wants, places, value)",
    "ready": "ready_plan(trade, wants, house) is_ready(trade, wants, house) "
             "ready_choice(trade, wants, room, house, kind) lost_ranks(trade, wants, house) "
             "least_ready(trade, wants, places) plan_holds(trade, wants, house, value) "
             "ranks_hold(trade, wants, house, value) helped(table) ready_paper(trade, wants, house) "
             "ready_holds(trade, wants, house, value) helped_paper(table) helped_holds(trade, value) "
             "Visit(trade, wants, house) .come(letter) .undo()",
    "shapes": "Shape(trade, names, told, ranks) .verdict() .choice(house, kind) Rooms(kinds, lists) .verdict() "
              ".measure(house) .overfull(house, counts) Piles(kinds, bears) .verdict() Stays(kinds, sorts) .verdict()",
    "cans": "Cans(sizes, greatest) .verdict() .measure(house) .is_within(house, other) .choice(house, kind)",
    "checker": "paper_words() paper_holds(trade, question, paper) wrong_papers(sheets)",
    "live": "Yard(trade, house, *, shut_kinds) .is_safe() .choice(kind) .come(kind) .give(kind, stand) .beat(sign) "
            ".put(stand) .take_away(stand) .shut(kind) .let(kind) .undo() .redo() .lost(letters, *, most) "
            "joined_yards(one, other)",
    "desk": "Desk(text) .tell(line)",
}
# The numbers of states and of rounds have bounds of their own; "most" yards are no bound of a search.
MOST = {"front_machine": 2000, "many_states": 2000, "PriceTable": 2000, "kind_dealings": inspect.Parameter.empty,
        "barred_dealings": inspect.Parameter.empty}

BAD_FILES = {
    "L5": "@property\nclass Box:\n    pass\n",
    "L7": "def go(xs):\n    return any(x for x in xs)\n",
    "L8": "def go(x):\n    return hash(x)\n",
    "L10": "def go(x):\n" + "    x += 1\n" * 40,
    "L12": "class _Box:\n    pass\n",
    "L13": "def go(x):\n    return x(lambda y: y, lambda y: -y)\n",
    "L14": "def go():\n    return '\u00e9'\n",
    "L15": "def go(max):\n    return max\n",
    "L16": "import os\n",
    "L17": "def go(x):\n    return x.type\n",
    "L18": "def go(x):\n    return x.nowhere\n",
    "L19": "def go(x):\n    try:\n        x()\n    except Exception:\n        pass\n",
    "L20": "def go(x, y):\n    return x is y\n",
    "L22": "def go(x):\n    return go(len)\n",
    "L23": "def go(x):\n    return zip(x, x)\n",
    "L24": "def go(x):\n    return {y for y in x}\n",
    "L25": "def go(x):\n    x.sort()\n",
    "L27": "def go(x):\n    return '%s'\n",
}


def parameters(made):
    told = inspect.signature(made).parameters.values()
    names = [one.name for one in told if one.name != "self"]
    only = [one.name for one in told if one.kind == one.KEYWORD_ONLY]
    return ", ".join(names[:len(names) - len(only)] + (["*"] if only else []) + only)


class LanguageTest(unittest.TestCase):
    def test_the_package_keeps_the_rules_that_can_be_seen(self):
        self.assertEqual(faults_of(PACKAGE), [])

    def rules_broken_by(self, text):
        with tempfile.TemporaryDirectory() as folder:
            with open(os.path.join(folder, "bad.py"), "w", encoding="utf-8") as file:
                file.write(text)
            return [fault[0] for fault in faults_of(folder)]

    def test_broken_rules_are_seen(self):
        for rule, text in BAD_FILES.items():
            self.assertIn(rule, self.rules_broken_by(text), text)

    def test_names_that_are_not_plain_are_seen(self):
        texts = ["class _Met:\n    pass\n", "class __Met:\n    pass\n", "def __go():\n    return 1\n",
                 "def go(__x):\n    return 1\n", "_wall_x = 1\n", "_sre2 = 1\n", "_cold_1 = 1\n",
                 "def go(x):\n    x.__y = 1\n", "def go(f):\n    return f(__x=1)\n"]
        for text in texts:
            self.assertIn("L12", self.rules_broken_by(text), text)
        for text in ["class Met:\n    pass\n", "def _go(_x):\n    return _x\n", "_COLD_1 = 1\n"]:
            self.assertEqual(self.rules_broken_by(text), [], text)

    def test_a_bent_name_of_a_class_is_seen_in_each_module(self):
        for name in sorted(os.listdir(PACKAGE)):
            if name.endswith(".py"):
                with open(os.path.join(PACKAGE, name), encoding="utf-8") as file:
                    text = file.read()
                found = self.rules_broken_by(text + "\n\nclass _Bent:\n    pass\n")
                self.assertEqual(found.count("L12"), 1, name)

    def test_the_interface_stands_in_its_files(self):
        for name, listed in INTERFACE.items():
            module = importlib.import_module(f"rueless.{name}")
            with open(module.__file__, encoding="utf-8") as file:
                tree = ast.parse(file.read())
            defined = {node.name: node for node in tree.body if isinstance(node, (ast.FunctionDef, ast.ClassDef))}
            last = None
            for word in listed.replace(", ", ",").replace(") ", ")\n").replace(" ", "\n").split("\n"):
                told, _, names = word.replace(",", ", ").rstrip(")").partition("(")
                if told.startswith("."):
                    self.assertIn(told[1:], vars(last))
                    made = getattr(last, told[1:])
                else:
                    self.assertIn(told, defined)
                    made = getattr(module, told)
                    last = made
                if name != "errors":
                    self.assertEqual(parameters(made), names, told)
                    defaults = {name: one.default for name, one in inspect.signature(made).parameters.items()}
                    self.assertEqual(defaults.get("most", 20000), MOST.get(told, 20000))
                    self.assertEqual(defaults.get("pairs", 5000), 5000)


if __name__ == "__main__":
    unittest.main()
